"""The spans of texts: points 1, 4 and 17."""

import inspect
import unittest
from fractions import Fraction

from boughpress import spans as module
from boughpress.errors import NoText, PressError
from boughpress.frames import make_frame
from boughpress.spans import span
from boughpress.weighed import weight
from plainly import FRAMES, as_fraction, drawn_texts, even_text, plain_weight, texts_of


class SpanTest(unittest.TestCase):
    def told(self, *arguments):
        told = span(*arguments)
        self.assertIs(type(told), tuple)
        self.assertEqual(len(told), 2)
        return as_fraction(told[0]), as_fraction(told[1])

    def assert_refused(self, *arguments):
        with self.subTest(arguments=arguments):
            with self.assertRaises(PressError) as refused:
                span(*arguments)
            self.assertIs(type(refused.exception), NoText)

    def assert_one_behind_the_other(self, frame, size, ahead):
        reached = Fraction(0)
        whole = plain_weight(frame, ahead)
        for text in texts_of(frame[0], size):
            low, width = self.told(frame, text, ahead)
            self.assertEqual(low, reached)
            self.assertEqual(width, plain_weight(frame, ahead + text) / whole)
            self.assertGreater(width, 0)
            reached += width
        self.assertEqual(reached, 1)

    def test_interface(self):
        arguments = inspect.signature(module.span).parameters
        self.assertEqual(list(arguments), ["frame", "text", "ahead"])
        self.assertEqual(arguments["ahead"].default, "")

    def test_by_hand(self):
        frame = make_frame("ab", 1)
        self.assertEqual(span(frame, "a"), ((0, 1), (1, 2)))
        self.assertEqual(span(frame, "b"), ((1, 2), (1, 2)))
        self.assertEqual(span(frame, "ba"), ((1, 2), (3, 16)))
        self.assertEqual(span(frame, "bb"), ((11, 16), (5, 16)))
        self.assertEqual(span(frame, "a", "b"), ((0, 1), (3, 8)))
        self.assertEqual(span(frame, "b", "b"), ((3, 8), (5, 8)))
        self.assertEqual(span(make_frame("ba", 1), "a"), ((1, 2), (1, 2)))
        self.assertEqual(span(make_frame("cab", 0), "b"), ((2, 3), (1, 3)))

    def test_the_text_without_signs(self):
        for frame in FRAMES:
            for ahead in ["", *drawn_texts(1, frame[0], (1, 9))]:
                self.assertEqual(span(frame, "", ahead), ((0, 1), (1, 1)))
            self.assertEqual(span(frame, ""), ((0, 1), (1, 1)))

    def test_all_texts_lie_one_behind_the_other(self):
        for frame, most in ((("ab", 0), 5), (("ba", 2), 5), (("ab", 6), 4), (("cab", 1), 3), (("fedcba", 2), 2)):
            for size in range(most + 1):
                self.assert_one_behind_the_other(frame, size, "")

    def test_all_texts_behind_a_text_lie_one_behind_the_other(self):
        for frame in FRAMES:
            for ahead in drawn_texts(2, frame[0], (1, 4)):
                for size in range(3):
                    self.assert_one_behind_the_other(frame, size, ahead)

    def test_a_text_ahead_that_is_left_out_has_no_signs(self):
        for frame in FRAMES:
            for text in drawn_texts(3, frame[0], (1, 12)):
                self.assertEqual(span(frame, text), span(frame, text, ""))
                self.assertEqual(span(frame, text, ahead=""), span(frame, text))

    def test_the_width_is_the_weight_of_both_over_that_of_the_one_ahead(self):
        for frame in FRAMES:
            for text, ahead in zip(drawn_texts(4, frame[0], (2, 20, 50)), drawn_texts(5, frame[0], (30, 7, 50))):
                width = self.told(frame, text, ahead)[1]
                self.assertEqual(
                    width, as_fraction(weight(frame, ahead + text)) / as_fraction(weight(frame, ahead))
                )

    def test_a_span_lies_in_that_of_each_beginning(self):
        for frame in FRAMES:
            text = drawn_texts(6, frame[0], (12,))[0]
            low, width = self.told(frame, text)
            for size in range(12):
                outer_low, outer_width = self.told(frame, text[:size])
                self.assertLessEqual(outer_low, low)
                self.assertLessEqual(low + width, outer_low + outer_width)

    def test_a_strange_sign_in_either(self):
        frame = make_frame("ab", 2)
        for strange in ("c", "abc", "cab", "A", " ", "a%", "a\n"):
            self.assert_refused(frame, strange)
            self.assert_refused(frame, strange, "")
            self.assert_refused(frame, strange, "ab")
            self.assert_refused(frame, "", strange)
            self.assert_refused(frame, "ab", strange)
            self.assert_refused(frame, strange, strange)

    def test_100_signs_together(self):
        for frame in (("ab", 6), ("fedcba", 6), ("abc", 0)):
            both = even_text(7, frame[0], 100)
            for size in (0, 1, 50, 99, 100):
                ahead, text = both[:size], both[size:]
                low, width = self.told(frame, text, ahead)
                self.assertEqual(
                    width, as_fraction(weight(frame, both)) / as_fraction(weight(frame, ahead))
                )
                self.assertGreaterEqual(low, 0)
                self.assertLessEqual(low + width, 1)

    def test_the_first_and_the_last_of_100_signs(self):
        frame = make_frame("fedcba", 6)
        self.assertEqual(self.told(frame, "f" * 100)[0], 0)
        self.assertEqual(sum(self.told(frame, "a" * 100)), 1)

    def test_neighbours_of_many_signs_touch(self):
        frame = make_frame("cab", 3)
        for ahead in ("", "abca"):
            text = even_text(8, "cab", 30)
            self.assertEqual(sum(self.told(frame, text + "cbbb", ahead)), self.told(frame, text + "accc", ahead)[0])
            self.assertEqual(sum(self.told(frame, text + "abb", ahead)), self.told(frame, text + "bcc", ahead)[0])


if __name__ == "__main__":
    unittest.main()
