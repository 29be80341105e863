"""Whole numbers, frames and checked texts: points 1 and 4."""

import inspect
import unittest
from decimal import Decimal
from fractions import Fraction

from boughpress import frames
from boughpress.errors import NoFrame, NoText, PressError
from boughpress.frames import checked, is_whole, make_frame

SIGNS = [chr(number) for number in range(32, 127) if number != 37]
OTHER_KINDS = [
    None, 1.0, 2.5, float("nan"), "1", "", b"1", (), (1,), [], [1], {}, {1: 2}, {1}, 1j,
    Fraction(1), Decimal(1), object(), int, len, lambda: 1, range(3), NotImplemented, ...,
]


class InterfaceTest(unittest.TestCase):
    def test_interface(self):
        for name, arguments in (
            ("is_whole", ["thing"]), ("make_frame", ["letters", "depth"]), ("checked", ["frame", "text"]),
        ):
            self.assertEqual(list(inspect.signature(getattr(frames, name)).parameters), arguments)


class WholeTest(unittest.TestCase):
    def test_whole_numbers(self):
        for thing in (0, 1, -1, 2, 37, -400, 10 ** 3999, -(10 ** 3999)):
            self.assertIs(is_whole(thing), True)

    def test_truths_are_none(self):
        self.assertIs(is_whole(True), False)
        self.assertIs(is_whole(False), False)

    def test_other_kinds_are_none(self):
        for thing in OTHER_KINDS:
            with self.subTest(thing=repr(thing)):
                self.assertIs(is_whole(thing), False)


class FrameTest(unittest.TestCase):
    def assert_made(self, letters, depth):
        frame = make_frame(letters, depth)
        self.assertIs(type(frame), tuple)
        self.assertEqual(frame, (letters, depth))
        self.assertIs(type(frame[0]), str)
        self.assertIs(type(frame[1]), int)

    def assert_refused(self, letters, depth):
        with self.subTest(letters=repr(letters), depth=repr(depth)[:40]):
            with self.assertRaises(NoFrame) as refused:
                make_frame(letters, depth)
            self.assertIsInstance(refused.exception, PressError)

    def test_two_to_six_letters(self):
        for letters in ("ab", "abc", "abcd", "abcde", "abcdef"):
            self.assert_made(letters, 3)

    def test_the_letters_keep_their_order(self):
        self.assert_made("ba", 1)
        self.assert_made("zya0 A", 2)

    def test_too_few_or_too_many_letters(self):
        for letters in ("", "a", "abcdefg", "".join(SIGNS)):
            self.assert_refused(letters, 3)

    def test_a_letter_twice(self):
        for letters in ("aa", "aab", "aba", "baa", "abcdea", "abcdee", "  "):
            self.assert_refused(letters, 3)

    def test_every_sign_may_be_a_letter(self):
        self.assertEqual(len(SIGNS), 94)
        for one, other in zip(SIGNS, SIGNS[1:] + SIGNS[:1]):
            self.assert_made(one + other, 1)
        self.assert_made(" ~", 2)
        self.assert_made("Aa", 2)

    def test_what_is_no_sign_is_no_letter(self):
        for sign in ("%", "\n", "\t", "\r", "\0", "\x1f", "\x7f", "\x80", "\xa0", "\xe4", "\u0101", "\ud800", "\U0001f333"):
            for letters in (sign + "a", "a" + sign, "a" + sign + "b", "abcde" + sign):
                self.assert_refused(letters, 3)

    def test_letters_that_are_no_text(self):
        for letters in (*OTHER_KINDS, True, 12, ["a", "b"], ("a", "b"), {"a": 1, "b": 2}, {"a", "b"}, b"ab", ("ab", 3)):
            self.assert_refused(letters, 3)

    def test_depths(self):
        for depth in range(7):
            self.assert_made("ab", depth)

    def test_depths_beyond_the_bounds(self):
        for depth in (-1, 7, -6, 60, 10 ** 3999, -(10 ** 3999)):
            self.assert_refused("ab", depth)

    def test_truths_are_no_depths(self):
        self.assert_refused("ab", True)
        self.assert_refused("ab", False)

    def test_depths_of_other_kinds(self):
        for depth in (*OTHER_KINDS, 0.0, 6.0, "3", [3], (3,)):
            self.assert_refused("ab", depth)

    def test_both_wrong(self):
        self.assert_refused("a", 7)
        self.assert_refused(None, None)

    def test_what_is_handed_in_is_not_changed(self):
        letters = ["a", "b"]
        depth = [3]
        self.assert_refused(letters, depth)
        self.assertEqual((letters, depth), (["a", "b"], [3]))


class CheckedTest(unittest.TestCase):
    def assert_checked(self, frame, text):
        told = checked(frame, text)
        self.assertIs(type(told), str)
        self.assertEqual(told, text)

    def assert_refused(self, frame, text):
        with self.subTest(text=repr(text)):
            with self.assertRaises(NoText) as refused:
                checked(frame, text)
            self.assertIsInstance(refused.exception, PressError)

    def test_the_empty_text(self):
        self.assert_checked(make_frame("ab", 0), "")
        self.assert_checked(make_frame("abcdef", 6), "")

    def test_texts_of_letters(self):
        frame = make_frame("ab ~", 2)
        for text in ("a", "b", " ", "~", "ab", "ba", "aaaa", "b~ a", "  ", "ab ~" * 25):
            self.assert_checked(frame, text)

    def test_a_long_text_is_not_refused_for_its_length(self):
        self.assert_checked(make_frame("ab", 0), "ab" * 60)

    def test_a_sign_that_is_no_letter(self):
        frame = make_frame("ab", 2)
        for sign in ("c", "A", " ", "~", "%", "\n", "\t", "\0", "\xe4", "\u0101", "\ud800"):
            for text in (sign, sign + "ab", "a" + sign + "b", "ab" + sign, "a" * 99 + sign):
                self.assert_refused(frame, text)

    def test_the_depth_is_no_letter(self):
        self.assert_refused(make_frame("ab", 2), "2")


if __name__ == "__main__":
    unittest.main()
