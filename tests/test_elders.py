"""The elders of a place: points 1, 4 and 5."""

import inspect
import unittest

from boughpress import elders as module
from boughpress.elders import elders
from boughpress.errors import NoPlace, NoText, PressError
from boughpress.frames import make_frame
from plainly import FRAMES, drawn_texts, plain_elders, texts_to

GREAT = 10 ** 3999


class EldersTest(unittest.TestCase):
    def assert_refused(self, refusal, frame, text, at):
        with self.subTest(frame=frame, text=text, at=str(at)[:20]):
            with self.assertRaises(PressError) as refused:
                elders(frame, text, at)
            self.assertIs(type(refused.exception), refusal)

    def test_interface(self):
        self.assertEqual(list(inspect.signature(module.elders).parameters), ["frame", "text", "at"])

    def test_by_hand(self):
        frame = make_frame("abc", 2)
        self.assertEqual([elders(frame, "bcca", at) for at in range(5)], ["aa", "ba", "cb", "cc", "ac"])
        self.assertEqual(elders(make_frame("ab", 6), "babba", 5), "abbaba")
        self.assertEqual(elders(make_frame("ba", 3), "aab", 1), "abb")

    def test_the_first_letter_stands_ahead_and_not_the_least_sign(self):
        self.assertEqual(elders(make_frame("zxy", 4), "xy", 2), "yxzz")
        self.assertEqual(elders(make_frame("~ a", 3), " ", 0), "~~~")

    def test_the_text_without_signs(self):
        for depth in range(7):
            self.assertEqual(elders(make_frame("ba", depth), "", 0), "b" * depth)

    def test_depth_nought_has_no_elders(self):
        for at in range(4):
            self.assertEqual(elders(make_frame("ab", 0), "bab", at), "")

    def test_every_place_at_every_depth(self):
        for depth in range(7):
            for letters in ("ab", "cab"):
                frame = make_frame(letters, depth)
                for text in texts_to(letters, 4) + drawn_texts(depth, letters, (9, 30, 100)):
                    for at in range(len(text) + 1):
                        told = elders(frame, text, at)
                        self.assertIs(type(told), str)
                        self.assertEqual(told, plain_elders(frame, text, at))

    def test_every_frame(self):
        for frame in FRAMES:
            for text in drawn_texts(5, frame[0], (1, 7, 20)):
                for at in range(len(text) + 1):
                    self.assertEqual(elders(frame, text, at), plain_elders(frame, text, at))

    def test_what_stands_behind_the_place_does_not_matter(self):
        frame = make_frame("ab", 3)
        for at in range(4):
            self.assertEqual(elders(frame, "babbb", at), elders(frame, "babaaaa", at))

    def test_a_place_that_is_none(self):
        for depth in (0, 1, 3, 6):
            frame = make_frame("ab", depth)
            for text in ("", "a", "abba", "ab" * 50):
                for at in (-1, -2, -len(text) - 1, len(text) + 1, len(text) + 2, -1000, 1000, GREAT, -GREAT):
                    self.assert_refused(NoPlace, frame, text, at)

    def test_a_strange_sign(self):
        frame = make_frame("ab", 2)
        for text in ("c", "abc", "cab", "acb", "aB", "a b", "a%", "a\n", "2"):
            for at in range(len(text) + 1):
                self.assert_refused(NoText, frame, text, at)

    def test_no_text_ahead_of_no_place(self):
        frame = make_frame("ab", 2)
        for at in (-1, 4, 1000, -1000, GREAT):
            self.assert_refused(NoText, frame, "abc", at)


if __name__ == "__main__":
    unittest.main()
