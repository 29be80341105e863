"""The best of a text: points 1, 4 and 15."""

import inspect
import unittest
from fractions import Fraction

from boughpress import bests as module
from boughpress.bests import best
from boughpress.counts import counts
from boughpress.errors import NoText, PressError
from boughpress.frames import make_frame
from boughpress.trees import is_tree, leaves, price, worth_by
from boughpress.weighed import weight
from plainly import (
    FRAMES, as_fraction, drawn_texts, drawn_trees, even_text, full_tree, plain_best, texts_to, tree_knots,
)


def share_times_worth(frame, tree, text):
    return Fraction(1, 2 ** price(frame, tree)) * as_fraction(worth_by(frame, tree, text))


class BestTest(unittest.TestCase):
    def test_interface(self):
        self.assertEqual(list(inspect.signature(module.best).parameters), ["frame", "text"])

    def test_by_hand(self):
        frame = make_frame("ab", 1)
        self.assertEqual(best(frame, "ba"), ((1, 8), (None, None)))
        self.assertEqual(best(frame, "aaa"), ((5, 32), None))
        self.assertEqual(best(make_frame("ab", 0), "ba"), ((1, 8), None))
        # Of ba at depth 2 the branching has 1/2 1/2 1/2 times 1/4, the leaf 1/2 times 1/8.
        self.assertEqual(best(make_frame("ab", 2), "ba"), ((1, 16), None))
        # Where each letter tells the next one, the branching is best.
        self.assertEqual(best(frame, "ab" * 10)[1], (None, None))

    def test_where_a_leaf_and_a_branching_are_alike_the_leaf_is_told(self):
        # Of ab at depth 1 both places fall in a: leaf and branching have 1/16 each.
        self.assertEqual(best(make_frame("ab", 1), "ab"), ((1, 16), None))
        self.assertEqual(best(make_frame("abc", 1), "a"), ((1, 6), None))
        self.assertEqual(best(make_frame("ba", 1), "bbb"), ((5, 32), None))

    def test_a_knot_in_which_no_place_falls_is_a_leaf(self):
        for frame in FRAMES:
            for text in drawn_texts(1, frame[0], (0, 3, 30)):
                tree = best(frame, text)[1]
                for knot, is_leaf in tree_knots(frame, tree):
                    if sum(counts(frame, text, knot)) == 0:
                        self.assertTrue(is_leaf)

    def test_the_text_without_signs(self):
        self.assertEqual(best(make_frame("ab", 0), ""), ((1, 1), None))
        for depth in range(1, 7):
            for letters in ("ab", "fedcba"):
                self.assertEqual(best(make_frame(letters, depth), ""), ((1, 2), None))

    def test_small_frames_against_all_trees(self):
        for frame in (("ab", 0), ("ab", 1), ("ba", 2), ("ab", 3), ("cab", 0), ("cab", 1), ("bca", 2), ("fedcba", 1)):
            letters = frame[0]
            texts = [*drawn_texts(2, letters, (1, 3, 7, 14)), (letters * 9)[:18], (letters[0] * 2 + letters[-1]) * 5]
            for text in texts:
                self.assertEqual(best(frame, text), plain_best(frame, text))

    def test_all_small_texts(self):
        for frame, most in ((("ba", 1), 6), (("ab", 2), 6), (("cab", 1), 4)):
            for text in texts_to(frame[0], most):
                self.assertEqual(best(frame, text), plain_best(frame, text))

    def test_the_tree_has_what_is_told(self):
        for frame in FRAMES:
            for text in drawn_texts(3, frame[0], (1, 6, 40)) + [(frame[0] * 20)[:40]]:
                told = best(frame, text)
                self.assertIs(type(told), tuple)
                greatest, tree = told
                self.assertIs(is_tree(frame, tree), True)
                self.assertEqual(as_fraction(greatest), share_times_worth(frame, tree, text))

    def test_no_tree_has_more_and_the_weight_is_no_less(self):
        for frame in FRAMES:
            for text in drawn_texts(4, frame[0], (1, 6, 40)):
                greatest = as_fraction(best(frame, text)[0])
                self.assertGreaterEqual(as_fraction(weight(frame, text)), greatest)
                for tree in [*drawn_trees(5, frame, 12), full_tree(frame, min(frame[1], 2))]:
                    self.assertLessEqual(share_times_worth(frame, tree, text), greatest)

    def test_100_signs(self):
        frame = make_frame("fedcba", 6)
        for text in (even_text(6, frame[0], 100), ("fa" * 3 + "eb") * 12):
            greatest, tree = best(frame, text)
            self.assertEqual(as_fraction(greatest), share_times_worth(frame, tree, text))
            self.assertGreaterEqual(len(leaves(frame, tree)), 1)

    def test_a_deep_tree_is_found(self):
        # Each sign is told by the third one ahead of it alone.
        text = "abb"
        while len(text) < 100:
            text += "ba"[text[-3] == "a" and len(text) % 7 != 0]
        greatest, tree = best(make_frame("ab", 3), text)
        self.assertEqual((greatest, tree), plain_best(("ab", 3), text))

    def test_a_strange_sign(self):
        for depth in (0, 2, 6):
            for text in ("c", "abc", "cab", "A", "a%", "a\n"):
                with self.assertRaises(PressError) as refused:
                    best(make_frame("ab", depth), text)
                self.assertIs(type(refused.exception), NoText)


if __name__ == "__main__":
    unittest.main()
