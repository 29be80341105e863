"""Knots and their counts: points 1, 4 and 6."""

import inspect
import unittest

from boughpress import counts as module
from boughpress.counts import counts, knots
from boughpress.errors import NoKnot, NoText, PressError
from boughpress.frames import make_frame
from plainly import FRAMES, drawn_texts, even_text, plain_counts, plain_knots, texts_to


def drawn(seed, frame):
    return ["", *drawn_texts(seed, frame[0], (1, 2, 5, 12, 30))]


class CountsCase(unittest.TestCase):
    def assert_refused(self, refusal, call, *arguments):
        with self.subTest(arguments=arguments):
            with self.assertRaises(PressError) as refused:
                call(*arguments)
            self.assertIs(type(refused.exception), refusal)


class InterfaceTest(unittest.TestCase):
    def test_interface(self):
        self.assertEqual(list(inspect.signature(module.counts).parameters), ["frame", "text", "knot"])
        self.assertEqual(list(inspect.signature(module.knots).parameters), ["frame", "text"])


class CountsTest(CountsCase):
    def test_by_hand(self):
        frame = make_frame("ab", 2)
        # The elders of the places of abbab: aa, aa, ba, bb, ab.
        for knot, told in (
            ("", [2, 3]), ("a", [1, 2]), ("b", [1, 1]), ("aa", [1, 1]), ("ab", [0, 1]), ("ba", [0, 1]), ("bb", [1, 0]),
        ):
            self.assertEqual(counts(frame, "abbab", knot), told)

    def test_the_numbers_stand_in_the_letters_order(self):
        self.assertEqual(counts(make_frame("ba", 0), "aab", ""), [1, 2])
        self.assertEqual(counts(make_frame("cab", 1), "aab", "a"), [0, 1, 1])
        self.assertEqual(counts(make_frame("cab", 1), "aab", "c"), [0, 1, 0])

    def test_the_end_falls_in_no_knot(self):
        self.assertEqual(counts(make_frame("ab", 1), "aab", "b"), [0, 0])

    def test_the_text_without_signs(self):
        for frame in FRAMES:
            for knot in texts_to(frame[0], min(frame[1], 2)):
                self.assertEqual(counts(frame, "", knot), [0] * len(frame[0]))

    def test_knots_of_every_size(self):
        for frame in FRAMES:
            for text in drawn(3, frame):
                asked = set(plain_knots(frame, text)) | set(texts_to(frame[0], min(frame[1], 2)))
                asked.add(frame[0][-1] * frame[1])
                for knot in sorted(asked)[:200]:
                    told = counts(frame, text, knot)
                    self.assertIs(type(told), list)
                    self.assertEqual(told, plain_counts(frame, text, knot))

    def test_the_counts_of_a_knot_are_the_sums_of_those_of_its_branches(self):
        for frame in FRAMES:
            for text in drawn(4, frame):
                for knot in plain_knots(frame, text):
                    if len(knot) < frame[1]:
                        branches = [counts(frame, text, knot + letter) for letter in frame[0]]
                        self.assertEqual(counts(frame, text, knot), [sum(column) for column in zip(*branches)])

    def test_the_counts_of_the_knot_without_signs_are_those_of_the_text(self):
        for frame in FRAMES:
            for text in drawn(5, frame):
                self.assertEqual(counts(frame, text, ""), [text.count(letter) for letter in frame[0]])

    def test_a_text_of_100_signs(self):
        frame = make_frame("abcdef", 6)
        text = drawn_texts(6, "abcdef", (100,))[0]
        self.assertEqual(sum(counts(frame, text, "")), 100)
        for knot in plain_knots(frame, text)[::40]:
            self.assertEqual(counts(frame, text, knot), plain_counts(frame, text, knot))

    def test_a_knot_that_is_too_long(self):
        for depth in range(7):
            frame = make_frame("ab", depth)
            for text in ("", "abba"):
                for longer in (1, 2, 30):
                    self.assert_refused(NoKnot, counts, frame, text, "a" * (depth + longer))
                    self.assert_refused(NoKnot, counts, frame, text, "ab" * (depth + longer))
                self.assertEqual(len(counts(frame, text, "a" * depth)), 2)

    def test_a_knot_with_a_strange_sign(self):
        frame = make_frame("ab", 3)
        for knot in ("c", "ac", "ca", "abc", "A", " ", "%", "\n", "a\n", "3", "abbc"):
            self.assert_refused(NoKnot, counts, frame, "abba", knot)
            self.assert_refused(NoKnot, counts, frame, "", knot)

    def test_a_strange_sign_in_the_text(self):
        frame = make_frame("ab", 2)
        for text in ("c", "abc", "cab", "a%", "a\n", "A"):
            self.assert_refused(NoText, counts, frame, text, "a")
            self.assert_refused(NoText, knots, frame, text)

    def test_no_text_ahead_of_no_knot(self):
        frame = make_frame("ab", 2)
        for knot in ("aaa", "c", "ccc"):
            self.assert_refused(NoText, counts, frame, "abc", knot)

    def test_each_told_list_is_a_new_one(self):
        frame = make_frame("ab", 1)
        for knot in ("", "a", "b"):
            for text in ("", "abab", "aaa"):
                first = counts(frame, text, knot)
                wanted = list(first)
                second = counts(frame, text, knot)
                self.assertIsNot(first, second)
                first[0] += 7
                first.append(9)
                self.assertEqual(second, wanted)
                self.assertEqual(counts(frame, text, knot), wanted)


class KnotsTest(CountsCase):
    def test_by_hand(self):
        self.assertEqual(knots(make_frame("ab", 2), "abbab"), ["", "a", "aa", "ab", "b", "ba", "bb"])
        self.assertEqual(knots(make_frame("ab", 2), "aab"), ["", "a", "aa"])
        self.assertEqual(knots(make_frame("ab", 2), "ab"), ["", "a", "aa"])
        self.assertEqual(knots(make_frame("ab", 0), "abba"), [""])

    def test_the_letters_in_an_order_that_is_not_the_alphabets(self):
        self.assertEqual(knots(make_frame("ba", 2), "abbab"), ["", "b", "bb", "ba", "a", "ab"])
        self.assertEqual(knots(make_frame("cab", 1), "abca"), ["", "c", "a", "b"])
        self.assertEqual(knots(make_frame("~ a", 1), " a~a"), ["", "~", " ", "a"])

    def test_the_text_without_signs_has_none(self):
        for frame in FRAMES:
            self.assertEqual(knots(frame, ""), [])

    def test_one_sign(self):
        self.assertEqual(knots(make_frame("ba", 3), "a"), ["", "b", "bb", "bbb"])

    def test_every_frame(self):
        for frame in FRAMES:
            for text in drawn(7, frame):
                told = knots(frame, text)
                self.assertIs(type(told), list)
                self.assertEqual(told, plain_knots(frame, text))

    def test_all_small_texts(self):
        for frame in (("ba", 2), ("cab", 1)):
            for text in texts_to(frame[0], 4):
                self.assertEqual(knots(frame, text), plain_knots(frame, text))

    def test_a_long_list(self):
        frame = make_frame("abcdef", 6)
        text = even_text(8, "abcdef", 100)
        told = knots(frame, text)
        self.assertGreater(len(told), 400)
        self.assertEqual(told, plain_knots(frame, text))

    def test_each_told_list_is_a_new_one(self):
        frame = make_frame("ab", 1)
        for text in ("", "abab"):
            first = knots(frame, text)
            wanted = list(first)
            self.assertIsNot(first, knots(frame, text))
            first.append("b")
            self.assertEqual(knots(frame, text), wanted)


if __name__ == "__main__":
    unittest.main()
