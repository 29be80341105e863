"""Texts pressed and bits read: points 1, 2, 4, 19 and 20."""

import inspect
import random
import unittest
from fractions import Fraction

from boughpress import press as module
from boughpress.bits import bits_of
from boughpress.errors import NoBits, NoPress, NoText, PressError
from boughpress.frames import make_frame
from boughpress.press import press, read
from boughpress.spans import span
from boughpress.trees import price, worth_by
from plainly import (
    FRAMES, all_trees, as_fraction, drawn_texts, drawn_trees, even_text, full_tree, plain_bits_of, texts_of, texts_to,
)

SMALL = [(("ab", 0), 5), (("ba", 2), 5), (("ab", 6), 4), (("cab", 1), 3), (("~ a", 2), 3), (("fedcba", 2), 2)]
NO_BITS = ["2", "a", "01 ", " 0", "0b1", "%", "0\n", None, True, False, 0, 1, 10, b"01", ["0"], ("0",), {}, object()]


class PressCase(unittest.TestCase):
    def assert_refused(self, refusal, call, *arguments):
        with self.subTest(arguments=str(arguments)[:80]):
            with self.assertRaises(PressError) as refused:
                call(*arguments)
            self.assertIs(type(refused.exception), refusal)

    def assert_there_and_back(self, frame, text, ahead=""):
        bits = press(frame, text, ahead)
        self.assertIs(type(bits), str)
        self.assertEqual(set(bits) - {"0", "1"}, set())
        told = read(frame, len(text), bits, ahead)
        self.assertIs(type(told), str)
        self.assertEqual(told, text)
        return bits


class PressTest(PressCase):
    def test_interface(self):
        for name, arguments in (
            ("press", ["frame", "text", "ahead"]), ("read", ["frame", "many", "bits", "ahead"]),
        ):
            told = inspect.signature(getattr(module, name)).parameters
            self.assertEqual(list(told), arguments)
            self.assertEqual(told["ahead"].default, "")

    def test_by_hand(self):
        frame = make_frame("ab", 1)
        self.assertEqual(press(frame, ""), "")
        self.assertEqual(press(frame, "a"), "0")
        self.assertEqual(press(frame, "b"), "1")
        self.assertEqual(press(frame, "ba"), "100")
        self.assertEqual(press(frame, "bb"), "11")
        # Behind b the span of a goes from 0 to 3/8, and that of b from there to 1.
        self.assertEqual(press(frame, "a", "b"), "00")
        self.assertEqual(press(frame, "b", "b"), "1")
        self.assertEqual(press(make_frame("ba", 1), "a"), "1")

    def test_the_bits_are_those_of_the_span(self):
        for frame in FRAMES:
            for text, ahead in zip(drawn_texts(1, frame[0], (1, 5, 30)), ["", *drawn_texts(2, frame[0], (1, 20))]):
                low, width = span(frame, text, ahead)
                self.assertEqual(press(frame, text, ahead), bits_of(low, width))
                self.assertEqual(press(frame, text, ahead), plain_bits_of(as_fraction(low), as_fraction(width)))

    def test_2_to_the_number_of_bits_times_the_width_is_less_than_4(self):
        for frame in FRAMES:
            for text in drawn_texts(3, frame[0], (1, 8, 40)):
                for ahead in ("", frame[0][1] * 3):
                    width = as_fraction(span(frame, text, ahead)[1])
                    self.assertLess(2 ** len(press(frame, text, ahead)) * width, 4)

    def test_a_strange_sign_in_either(self):
        frame = make_frame("ab", 2)
        for strange in ("c", "abc", "A", " ", "a%", "a\n"):
            self.assert_refused(NoText, press, frame, strange)
            self.assert_refused(NoText, press, frame, strange, "ab")
            self.assert_refused(NoText, press, frame, "ab", strange)
            self.assert_refused(NoText, press, frame, strange, strange)


class ReadTest(PressCase):
    def test_all_texts_of_a_few_signs(self):
        for frame, most in SMALL:
            for text in texts_to(frame[0], most):
                self.assert_there_and_back(frame, text)

    def test_all_texts_of_a_few_signs_behind_a_text(self):
        for frame, most in SMALL:
            for ahead in drawn_texts(4, frame[0], (1, 7)):
                for text in texts_to(frame[0], most - 1):
                    self.assert_there_and_back(frame, text, ahead)

    def test_all_bits_of_a_few_signs(self):
        for frame, most in ((("ab", 1), 3), (("cab", 1), 2), (("ba", 3), 3)):
            for ahead in ("", frame[0][::-1]):
                for size in range(most + 1):
                    pressed = {press(frame, text, ahead): text for text in texts_of(frame[0], size)}
                    for bits in texts_to("01", 6):
                        if bits in pressed:
                            self.assertEqual(read(frame, size, bits, ahead), pressed[bits])
                        else:
                            self.assert_refused(NoPress, read, frame, size, bits, ahead)

    def test_no_signs(self):
        for frame in FRAMES:
            for ahead in ("", frame[0]):
                self.assertEqual(read(frame, 0, "", ahead), "")
                for bits in ("0", "1", "00", "10101"):
                    self.assert_refused(NoPress, read, frame, 0, bits, ahead)
                self.assert_refused(NoPress, read, frame, 1, "", ahead)

    def test_spoilt_bits(self):
        for frame in FRAMES:
            for text in drawn_texts(5, frame[0], (4, 12)):
                bits = press(frame, text)
                for other in (bits + "0", bits + "1", bits[:-1], bits + "0" * 50, "0" + bits, "1" + bits, bits[1:]):
                    if other != bits:
                        self.assert_reads_to_what_is_pressed_so(frame, len(text), other, text)
                for at in range(len(bits)):
                    other = bits[:at] + "10"[int(bits[at])] + bits[at + 1:]
                    self.assert_reads_to_what_is_pressed_so(frame, len(text), other, text)

    def assert_reads_to_what_is_pressed_so(self, frame, size, bits, unlike):
        try:
            told = read(frame, size, bits)
        except NoPress:
            return
        self.assertNotEqual(told, unlike)
        self.assertEqual((len(told), press(frame, told)), (size, bits))

    def test_bits_that_are_longer_or_shorter_are_no_press(self):
        for frame in FRAMES:
            text = drawn_texts(6, frame[0], (10,))[0]
            bits = press(frame, text)
            # The stretch of more bits lies in the same span, and that of fewer in no one.
            self.assert_refused(NoPress, read, frame, 10, bits + "0")
            self.assert_refused(NoPress, read, frame, 10, bits + "1")
            self.assert_refused(NoPress, read, frame, 10, bits[:-1])

    def test_one_sign_more_and_fewer_than_pressed(self):
        for frame in FRAMES:
            text = drawn_texts(7, frame[0], (9,))[0]
            bits = press(frame, text)
            for size in (8, 10, 0, 40):
                try:
                    told = read(frame, size, bits)
                except NoPress:
                    continue
                self.assertEqual((len(told), press(frame, told)), (size, bits))

    def test_more_than_100_signs(self):
        frame = make_frame("ab", 1)
        text = even_text(8, "ab", 101)
        bits = press(frame, text)
        self.assert_refused(NoPress, read, frame, 101, bits)
        self.assert_refused(NoPress, read, frame, 101, "")
        self.assert_refused(NoPress, read, frame, 10 ** 3999, bits)
        self.assert_refused(NoPress, read, frame, -1, "")
        for size in (1, 50, 100):
            behind = press(frame, text[size:], text[:size])
            self.assert_refused(NoPress, read, frame, 101 - size, behind, text[:size])
            self.assert_refused(NoPress, read, frame, 10 ** 9, behind, text[:size])
        self.assertEqual(read(frame, 100, press(frame, text[:100])), text[:100])
        self.assertEqual(read(frame, 60, press(frame, text[40:100], text[:40]), text[:40]), text[40:100])

    def test_what_is_no_bits(self):
        frame = make_frame("ab", 2)
        for bits in NO_BITS:
            for ahead in ("", "ab"):
                self.assert_refused(NoBits, read, frame, 3, bits, ahead)
                self.assert_refused(NoBits, read, frame, 0, bits, ahead)

    def test_no_bits_ahead_of_no_press(self):
        frame = make_frame("ab", 2)
        for bits in NO_BITS:
            self.assert_refused(NoBits, read, frame, 101, bits)
            self.assert_refused(NoBits, read, frame, 99, bits, "ab")

    def test_no_text_ahead_of_no_bits_and_no_press(self):
        frame = make_frame("ab", 2)
        for strange in ("c", "abc", "a%", "a\n"):
            self.assert_refused(NoText, read, frame, 1, "0", strange)
            for bits in NO_BITS:
                self.assert_refused(NoText, read, frame, 1, bits, strange)
                self.assert_refused(NoText, read, frame, 101, bits, strange)
            self.assert_refused(NoText, read, frame, 101, "0", strange)

    def test_thousands_of_bits(self):
        frame = make_frame("abcdef", 3)
        source = random.Random(9)
        for bits in ("0" * 4000, "1" * 4000, "".join(source.choice("01") for _ in range(4000))):
            for size in (0, 1, 100):
                self.assert_refused(NoPress, read, frame, size, bits)

    def test_100_signs(self):
        for frame in (("ab", 6), ("fedcba", 6), ("abc", 0), ("badc", 3)):
            letters = frame[0]
            for text in (even_text(10, letters, 100), (letters * 50)[:100], letters[0] * 100, letters[-1] * 100):
                self.assert_there_and_back(frame, text)
                self.assert_there_and_back(frame, text[30:], text[:30])
                self.assert_there_and_back(frame, text[99:], text[:99])
                self.assert_there_and_back(frame, "", text)


class WholeTest(PressCase):
    """Point 2, over the whole program."""

    def assert_no_tree_wants_two_bits_less(self, frame, trees, text):
        size = len(self.assert_there_and_back(frame, text))
        for tree in trees:
            share = Fraction(1, 2 ** price(frame, tree))
            self.assertLess(2 ** size * share * as_fraction(worth_by(frame, tree, text)), 4)

    def test_all_trees_of_small_frames(self):
        for frame in (("ab", 0), ("ba", 1), ("ab", 2), ("ba", 3), ("cab", 1), ("bca", 2), ("fedcba", 1)):
            texts = drawn_texts(11, frame[0], (1, 5, 30)) + [(frame[0] * 30)[:50]]
            for text in texts:
                self.assert_no_tree_wants_two_bits_less(frame, all_trees(frame), text)

    def test_drawn_frames_texts_and_trees(self):
        for frame in FRAMES:
            trees = [*drawn_trees(12, frame, 10), full_tree(frame, min(frame[1], 3))]
            for text in drawn_texts(13, frame[0], (0, 2, 17, 100)) + [(frame[0] * 50)[:100]]:
                self.assert_no_tree_wants_two_bits_less(frame, trees, text)

    def test_all_small_texts(self):
        for frame, most in SMALL:
            trees = drawn_trees(14, frame, 5)
            for text in texts_to(frame[0], most):
                self.assert_no_tree_wants_two_bits_less(frame, trees, text)

    def test_the_bits_of_none_begin_the_bits_of_another(self):
        for frame, most in SMALL:
            for ahead in ("", frame[0][-1] * 2):
                for size in range(most + 1):
                    pressed = sorted(press(frame, text, ahead) for text in texts_of(frame[0], size))
                    for one, other in zip(pressed, pressed[1:]):
                        self.assertFalse(other.startswith(one))

    def test_drawn_texts_do_not_begin_each_other(self):
        for frame in FRAMES:
            texts = sorted({even_text(seed, frame[0], 12) for seed in range(12)})
            pressed = [press(frame, text) for text in texts]
            for number, one in enumerate(pressed):
                for other in pressed[:number]:
                    self.assertFalse(one.startswith(other) or other.startswith(one))

    def test_a_text_that_a_tree_tells_well_is_pressed_to_few_bits(self):
        self.assertLess(len(press(make_frame("ab", 2), "ab" * 50)), 16)
        self.assertGreater(len(press(make_frame("ab", 2), even_text(15, "ab", 100))), 80)


if __name__ == "__main__":
    unittest.main()
