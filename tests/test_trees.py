"""Trees of a frame: points 1, 4, 9, 10 and 11."""

import inspect
import unittest
from fractions import Fraction

from boughpress import trees as module
from boughpress.elders import elders
from boughpress.errors import NoText, NoTree, PressError
from boughpress.frames import make_frame
from boughpress.trees import is_tree, leaves, price, worth_by
from plainly import (
    FRAMES, all_trees, as_fraction, drawn_texts, drawn_trees, even_text, full_tree, plain_leaves, plain_price,
    plain_worth_by, texts_to, tree_knots,
)

SMALL = [("ab", 0), ("ab", 1), ("ba", 2), ("ab", 3), ("cab", 0), ("cab", 1), ("bca", 2), ("dcba", 2), ("fedcba", 1)]
NO_TREES = [
    True, False, 0, 1, -1, 2.0, "", ".", "(..)", "ab", b"..", [], [None, None], {}, {0: None, 1: None}, set(), (),
    (None,), object(), tuple, len, range(2), ..., NotImplemented, float("nan"),
]


def nested(many, letters):
    """Tuples within one another, each with as many things as there are letters."""
    told = None
    for _ in range(many):
        told = (told,) + (None,) * (letters - 1)
    return told


class TreesCase(unittest.TestCase):
    def assert_refused(self, refusal, call, *arguments):
        with self.assertRaises(PressError) as refused:
            call(*arguments)
        self.assertIs(type(refused.exception), refusal)

    def assert_no_tree(self, frame, thing):
        self.assertIs(is_tree(frame, thing), False)
        self.assert_refused(NoTree, price, frame, thing)
        self.assert_refused(NoTree, leaves, frame, thing)
        self.assert_refused(NoTree, worth_by, frame, thing, "")


class IsTreeTest(TreesCase):
    def test_interface(self):
        for name, arguments in (
            ("is_tree", ["frame", "thing"]), ("price", ["frame", "tree"]), ("leaves", ["frame", "tree"]),
            ("worth_by", ["frame", "tree", "text"]),
        ):
            self.assertEqual(list(inspect.signature(getattr(module, name)).parameters), arguments)

    def test_a_leaf_is_a_tree_of_every_frame(self):
        for frame in FRAMES:
            self.assertIs(is_tree(frame, None), True)

    def test_all_trees_of_small_frames(self):
        for frame in SMALL:
            for tree in all_trees(frame):
                self.assertIs(is_tree(frame, tree), True)

    def test_drawn_trees(self):
        for frame in FRAMES:
            for tree in drawn_trees(1, frame, 20):
                self.assertIs(is_tree(frame, tree), True)

    def test_too_few_and_too_many_branches(self):
        for size in range(2, 7):
            frame = make_frame("abcdef"[:size], 3)
            for many in range(9):
                branching = (None,) * many
                if many == size:
                    self.assertIs(is_tree(frame, branching), True)
                else:
                    self.assert_no_tree(frame, branching)
                    self.assert_no_tree(frame, (None,) * (size - 1) + (branching,))
                    self.assert_no_tree(frame, (branching,) + (None,) * (size - 1))

    def test_too_deep(self):
        for depth in range(7):
            frame = make_frame("ab", depth)
            for steps in range(10):
                for tree in (nested(steps, 2), full_tree(frame, steps)):
                    if steps <= depth:
                        self.assertIs(is_tree(frame, tree), True)
                    else:
                        self.assert_no_tree(frame, tree)

    def test_too_deep_at_one_branch_alone(self):
        frame = make_frame("ab", 2)
        self.assertIs(is_tree(frame, (None, (None, None))), True)
        self.assert_no_tree(frame, (None, (None, (None, None))))
        self.assert_no_tree(frame, (((None, None), None), None))

    def test_thousands_of_tuples_within_one_another(self):
        for letters in ("ab", "abc", "abcdef"):
            for depth in (0, 3, 6):
                for many in (400, 5000, 50000):
                    self.assert_no_tree(make_frame(letters, depth), nested(many, len(letters)))
        alone = ()
        for _ in range(20000):
            alone = (alone,)
        self.assert_no_tree(make_frame("ab", 6), alone)
        self.assert_no_tree(make_frame("ab", 6), (None, alone))
        self.assert_no_tree(make_frame("ab", 6), (alone, alone))

    def test_things_of_other_kinds(self):
        for depth in (0, 1, 3):
            frame = make_frame("ab", depth)
            for thing in NO_TREES:
                self.assert_no_tree(frame, thing)

    def test_things_of_other_kinds_as_branches(self):
        frame = make_frame("ab", 3)
        for thing in NO_TREES:
            self.assert_no_tree(frame, (thing, None))
            self.assert_no_tree(frame, (None, thing))
            self.assert_no_tree(frame, ((None, None), (None, thing)))
        ring = []
        ring.append((ring, ring))
        self.assert_no_tree(frame, (ring, None))
        self.assert_no_tree(frame, ring[0])

    def test_a_list_in_the_place_of_a_tuple_stays(self):
        branches = [None, [None, None]]
        self.assert_no_tree(make_frame("ab", 3), branches)
        self.assertEqual(branches, [None, [None, None]])


class PriceTest(TreesCase):
    def test_by_hand(self):
        self.assertEqual(price(make_frame("ab", 0), None), 0)
        self.assertEqual(price(make_frame("ab", 1), None), 1)
        self.assertEqual(price(make_frame("ab", 6), None), 1)
        self.assertEqual(price(make_frame("ab", 1), (None, None)), 1)
        self.assertEqual(price(make_frame("ab", 2), (None, None)), 3)
        self.assertEqual(price(make_frame("ab", 2), ((None, None), None)), 3)
        self.assertEqual(price(make_frame("ab", 3), ((None, None), None)), 5)
        self.assertEqual(price(make_frame("abc", 2), (None, (None, None, None), None)), 4)

    def test_against_the_knots(self):
        for frame in FRAMES:
            for tree in drawn_trees(2, frame, 20):
                told = price(frame, tree)
                self.assertIs(type(told), int)
                self.assertEqual(told, plain_price(frame, tree))

    def test_the_shares_of_all_trees_come_to_1(self):
        for frame in SMALL:
            self.assertEqual(sum(Fraction(1, 2 ** price(frame, tree)) for tree in all_trees(frame)), 1)

    def test_a_tree_of_nearly_1000_knots(self):
        frame = make_frame("abc", 6)
        tree = (full_tree(frame, 5), full_tree(frame, 5), None)
        self.assertEqual(len(tree_knots(frame, tree)), 2 * 364 + 2)
        self.assertEqual(price(frame, tree), 2 * 121 + 2)


class LeavesTest(TreesCase):
    def test_by_hand(self):
        self.assertEqual(leaves(make_frame("ab", 0), None), [""])
        self.assertEqual(leaves(make_frame("ab", 3), None), [""])
        self.assertEqual(leaves(make_frame("ab", 2), (None, None)), ["a", "b"])
        self.assertEqual(leaves(make_frame("ba", 2), (None, None)), ["b", "a"])
        self.assertEqual(leaves(make_frame("ab", 2), (None, (None, None))), ["a", "ba", "bb"])
        self.assertEqual(leaves(make_frame("ba", 2), (None, (None, None))), ["b", "ab", "aa"])
        self.assertEqual(leaves(make_frame("cab", 2), ((None, None, None), None, None)), ["cc", "ca", "cb", "a", "b"])

    def test_all_trees_of_small_frames(self):
        for frame in SMALL:
            for tree in all_trees(frame):
                told = leaves(frame, tree)
                self.assertIs(type(told), list)
                self.assertEqual(told, plain_leaves(frame, tree))

    def test_drawn_trees(self):
        for frame in FRAMES:
            for tree in drawn_trees(3, frame, 20):
                self.assertEqual(leaves(frame, tree), plain_leaves(frame, tree))

    def test_the_elders_of_each_place_begin_with_just_one_leaf(self):
        for frame in FRAMES:
            text = drawn_texts(4, frame[0], (15,))[0]
            for tree in drawn_trees(5, frame, 8):
                told = leaves(frame, tree)
                for at in range(len(text) + 1):
                    ahead = elders(frame, text, at)
                    self.assertEqual(len([leaf for leaf in told if ahead.startswith(leaf)]), 1)

    def test_each_told_list_is_a_new_one(self):
        frame = make_frame("ab", 2)
        for tree in (None, (None, None)):
            first = leaves(frame, tree)
            wanted = list(first)
            self.assertIsNot(first, leaves(frame, tree))
            first.append("b")
            self.assertEqual(leaves(frame, tree), wanted)


class WorthByTest(TreesCase):
    def test_by_hand(self):
        frame = make_frame("ab", 1)
        self.assertEqual(worth_by(frame, None, "ab"), (1, 8))
        # The elders of abbab are a, a, b, b, a: the counts are [1, 2] and [1, 1].
        self.assertEqual(worth_by(frame, (None, None), "abbab"), (1, 128))
        self.assertEqual(worth_by(frame, None, "abbab"), (3, 256))
        self.assertEqual(worth_by(frame, (None, None), ""), (1, 1))
        self.assertEqual(worth_by(make_frame("ab", 0), None, "aaa"), (5, 16))
        self.assertEqual(worth_by(make_frame("ba", 1), (None, None), "ab"), (1, 4))
        self.assertEqual(worth_by(make_frame("cab", 1), (None, None, None), "ab"), (1, 9))

    def test_all_trees_of_small_frames(self):
        for frame in SMALL:
            for tree in all_trees(frame):
                for text in drawn_texts(6, frame[0], (0, 1, 8)):
                    self.assertEqual(as_fraction(worth_by(frame, tree, text)), plain_worth_by(frame, tree, text))

    def test_all_small_texts(self):
        frame = make_frame("ba", 2)
        for tree in all_trees(frame):
            for text in texts_to("ba", 5):
                self.assertEqual(as_fraction(worth_by(frame, tree, text)), plain_worth_by(frame, tree, text))

    def test_drawn_trees(self):
        for frame in FRAMES:
            for tree in drawn_trees(7, frame, 6):
                for text in drawn_texts(8, frame[0], (3, 20)):
                    self.assertEqual(as_fraction(worth_by(frame, tree, text)), plain_worth_by(frame, tree, text))

    def test_a_text_of_100_signs(self):
        for frame in (("ab", 6), ("abcdef", 3)):
            text = even_text(9, frame[0], 100)
            tree = full_tree(frame, 3)
            self.assertEqual(as_fraction(worth_by(frame, tree, text)), plain_worth_by(frame, tree, text))

    def test_a_strange_sign(self):
        frame = make_frame("ab", 2)
        for tree in all_trees(frame):
            for text in ("c", "abc", "cab", "A", "a%", "a\n"):
                self.assert_refused(NoText, worth_by, frame, tree, text)

    def test_no_tree_ahead_of_no_text(self):
        frame = make_frame("ab", 2)
        for thing in (*NO_TREES, nested(3, 2), nested(5000, 2), (None, None, None)):
            for text in ("c", "abc", "", "ab"):
                self.assert_refused(NoTree, worth_by, frame, thing, text)


if __name__ == "__main__":
    unittest.main()
