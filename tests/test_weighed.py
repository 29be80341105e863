"""The weights of texts and of knots: points 1, 2, 4, 13 and 14."""

import inspect
import unittest
from fractions import Fraction

from boughpress import weighed as module
from boughpress.errors import NoText, PressError
from boughpress.frames import make_frame
from boughpress.weighed import weigh_paper, weight
from plainly import (
    FRAMES, as_fraction, as_told, drawn_texts, even_text, plain_counts, plain_knots, plain_weight, plain_worth,
    texts_of, texts_to, weight_over_trees,
)


class WeighedCase(unittest.TestCase):
    def assert_refused(self, call, frame, text):
        with self.subTest(frame=frame, text=text):
            with self.assertRaises(PressError) as refused:
                call(frame, text)
            self.assertIs(type(refused.exception), NoText)


class WeightTest(WeighedCase):
    def test_interface(self):
        self.assertEqual(list(inspect.signature(module.weight).parameters), ["frame", "text"])
        self.assertEqual(list(inspect.signature(module.weigh_paper).parameters), ["frame", "text"])

    def test_by_hand(self):
        # Of ab at depth 1 both places fall in a, so the leaf and the branching are worth 1/8 each.
        self.assertEqual(weight(make_frame("ab", 1), "ab"), (1, 8))
        # Of ba the places fall in a and b, so the branching is worth 1/4.
        self.assertEqual(weight(make_frame("ab", 1), "ba"), (3, 16))
        self.assertEqual(weight(make_frame("ba", 1), "ab"), (3, 16))
        self.assertEqual(weight(make_frame("ab", 0), "ba"), (1, 8))
        self.assertEqual(weight(make_frame("abc", 0), "abc"), (1, 105))
        self.assertEqual(weight(make_frame("ab", 1), "abbab"), as_told((Fraction(3, 256) + Fraction(1, 128)) / 2))
        self.assertEqual(weight(make_frame("ab", 2), "ba"), (3, 16))

    def test_the_text_without_signs(self):
        for frame in FRAMES:
            self.assertEqual(weight(frame, ""), (1, 1))

    def test_one_sign(self):
        for frame in FRAMES:
            for letter in frame[0]:
                self.assertEqual(weight(frame, letter), (1, len(frame[0])))

    def test_the_sum_over_all_trees(self):
        for frame in (("ab", 0), ("ab", 1), ("ba", 2), ("ab", 3), ("cab", 0), ("cab", 1), ("bca", 2), ("fedcba", 1)):
            for text in drawn_texts(1, frame[0], (1, 2, 4, 9)):
                self.assertEqual(as_fraction(weight(frame, text)), weight_over_trees(frame, text))
        for text in texts_to("ba", 5):
            self.assertEqual(as_fraction(weight(("ba", 2), text)), weight_over_trees(("ba", 2), text))

    def test_the_words_of_the_point(self):
        for frame in FRAMES:
            for text in drawn_texts(2, frame[0], (3, 10, 24)):
                self.assertEqual(as_fraction(weight(frame, text)), plain_weight(frame, text))

    def test_all_texts_with_as_many_signs_come_to_1(self):
        for frame, most in ((("ab", 0), 6), (("ba", 3), 7), (("ab", 6), 7), (("cab", 2), 4), (("fedcba", 6), 3)):
            for size in range(most + 1):
                self.assertEqual(sum(as_fraction(weight(frame, text)) for text in texts_of(frame[0], size)), 1)

    def test_100_signs(self):
        for frame in (("ab", 6), ("fedcba", 6), ("abc", 0)):
            for text in (even_text(3, frame[0], 100), frame[0][-1] * 100, (frame[0] * 50)[:100]):
                self.assertEqual(as_fraction(weight(frame, text)), plain_weight(frame, text))

    def test_a_strange_sign(self):
        for depth in (0, 2, 6):
            frame = make_frame("ab", depth)
            for text in ("c", "abc", "cab", "acb", "A", " ", "a%", "a\n", "a" * 99 + "c"):
                self.assert_refused(weight, frame, text)
                self.assert_refused(weigh_paper, frame, text)


class PaperTest(WeighedCase):
    def test_by_hand(self):
        self.assertEqual(
            weigh_paper(make_frame("ab", 1), "ba"),
            [("", (1, 8), (3, 16)), ("a", (1, 2), (1, 2)), ("b", (1, 2), (1, 2))],
        )
        self.assertEqual(
            weigh_paper(make_frame("ba", 1), "ab"),
            [("", (1, 8), (3, 16)), ("b", (1, 2), (1, 2)), ("a", (1, 2), (1, 2))],
        )
        self.assertEqual(
            weigh_paper(make_frame("ab", 2), "ab"), [("", (1, 8), (1, 8)), ("a", (1, 8), (1, 8)), ("aa", (1, 8), (1, 8))]
        )
        self.assertEqual(weigh_paper(make_frame("abc", 0), "abc"), [("", (1, 105), (1, 105))])

    def test_the_text_without_signs(self):
        for frame in FRAMES:
            self.assertEqual(weigh_paper(frame, ""), [])

    def test_every_frame(self):
        for frame in FRAMES:
            for text in drawn_texts(4, frame[0], (1, 5, 16)):
                told = weigh_paper(frame, text)
                self.assertIs(type(told), list)
                self.assertEqual([row[0] for row in told], plain_knots(frame, text))
                for row in told:
                    self.assertIs(type(row), tuple)
                    knot, worth, knot_weight = row
                    self.assertEqual(as_fraction(worth), plain_worth(plain_counts(frame, text, knot)))
                    self.assertEqual(as_fraction(knot_weight), plain_weight(frame, text, knot))

    def test_the_first_row_has_the_weight_of_the_text(self):
        for frame in FRAMES:
            for text in drawn_texts(5, frame[0], (1, 6, 40)):
                self.assertEqual(weigh_paper(frame, text)[0][2], weight(frame, text))

    def test_100_signs(self):
        frame = make_frame("fedcba", 6)
        text = even_text(6, "fedcba", 100)
        told = weigh_paper(frame, text)
        self.assertEqual([row[0] for row in told], plain_knots(frame, text))
        for knot, _, knot_weight in told[::30]:
            self.assertEqual(as_fraction(knot_weight), plain_weight(frame, text, knot))

    def test_each_told_list_is_a_new_one(self):
        frame = make_frame("ab", 1)
        for text in ("", "abab"):
            first = weigh_paper(frame, text)
            wanted = list(first)
            self.assertIsNot(first, weigh_paper(frame, text))
            first.append(("b", (1, 1), (1, 1)))
            self.assertEqual(weigh_paper(frame, text), wanted)


if __name__ == "__main__":
    unittest.main()
