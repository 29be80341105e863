"""Bits and their stretches, and the bits of spans: points 1 and 18."""

import inspect
import random
import unittest
from fractions import Fraction

from boughpress import bits as module
from boughpress.bits import bits_of, stretch
from boughpress.errors import NoBits, PressError
from plainly import as_fraction, as_told, plain_bits_of, texts_to

NO_BITS = [
    "2", "a", " ", "01 ", " 01", "0 1", "012", "01a", "0b1", "-1", "+1", "%", "01\n", "\n", "\t", "\u0661", "\xb9", None,
    True, False, 0, 1, 10, 1.5, b"", b"01", [], ["0", "1"], (), ("0", "1"), {}, {"0": 1}, {"0"}, object(), str, ...,
]




class InterfaceTest(unittest.TestCase):
    def test_interface(self):
        self.assertEqual(list(inspect.signature(module.stretch).parameters), ["bits"])
        self.assertEqual(list(inspect.signature(module.bits_of).parameters), ["low", "width"])


class StretchTest(unittest.TestCase):
    def test_by_hand(self):
        self.assertEqual(stretch("0"), ((0, 1), (1, 2)))
        self.assertEqual(stretch("1"), ((1, 2), (1, 2)))
        self.assertEqual(stretch("00"), ((0, 1), (1, 4)))
        self.assertEqual(stretch("01"), ((1, 4), (1, 4)))
        self.assertEqual(stretch("10"), ((1, 2), (1, 4)))
        self.assertEqual(stretch("11"), ((3, 4), (1, 4)))
        self.assertEqual(stretch("0110"), ((3, 8), (1, 16)))
        self.assertEqual(stretch("10100000"), ((5, 8), (1, 256)))

    def test_no_bits_at_all(self):
        self.assertEqual(stretch(""), ((0, 1), (1, 1)))

    def test_all_small_bits(self):
        for bits in texts_to("01", 8)[1:]:
            told = stretch(bits)
            self.assertIs(type(told), tuple)
            self.assertEqual(as_fraction(told[0]), Fraction(int(bits, 2), 2 ** len(bits)))
            self.assertEqual(as_fraction(told[1]), Fraction(1, 2 ** len(bits)))

    def test_thousands_of_bits(self):
        source = random.Random(1)
        for bits in ("0" * 4000, "1" * 4000, "".join(source.choice("01") for _ in range(4000)), "1" + "0" * 3999):
            low, width = stretch(bits)
            self.assertEqual(as_fraction(low), Fraction(int(bits, 2), 2 ** 4000))
            self.assertEqual(as_fraction(width), Fraction(1, 2 ** 4000))

    def test_what_is_no_bits(self):
        for thing in [*NO_BITS, "0" * 3999 + "2", "2" + "0" * 3999]:
            with self.subTest(thing=repr(thing)[:30]):
                with self.assertRaises(PressError) as refused:
                    stretch(thing)
                self.assertIs(type(refused.exception), NoBits)

    def test_a_list_that_is_handed_in_stays(self):
        signs = ["0", "1"]
        with self.assertRaises(NoBits):
            stretch(signs)
        self.assertEqual(signs, ["0", "1"])


class BitsOfTest(unittest.TestCase):
    def assert_bits(self, low, width):
        bits = bits_of(as_told(low), as_told(width))
        self.assertIs(type(bits), str)
        self.assertEqual(bits, plain_bits_of(low, width))
        told_low, told_width = map(as_fraction, stretch(bits))
        self.assertGreaterEqual(told_low, low)
        self.assertLessEqual(told_low + told_width, low + width)
        self.assertLess(2 ** len(bits) * width, 4)

    def test_by_hand(self):
        self.assertEqual(bits_of((0, 1), (1, 1)), "")
        self.assertEqual(bits_of((0, 1), (1, 2)), "0")
        self.assertEqual(bits_of((1, 2), (1, 2)), "1")
        self.assertEqual(bits_of((0, 1), (2, 3)), "0")
        self.assertEqual(bits_of((1, 3), (2, 3)), "1")
        self.assertEqual(bits_of((1, 4), (1, 2)), "01")
        self.assertEqual(bits_of((1, 8), (3, 4)), "01")
        self.assertEqual(bits_of((1, 3), (1, 3)), "011")
        self.assertEqual(bits_of((1, 2), (3, 16)), "100")
        self.assertEqual(bits_of((11, 16), (5, 16)), "11")
        self.assertEqual(bits_of((0, 1), (1, 3)), "00")
        self.assertEqual(bits_of((2, 3), (1, 3)), "11")

    def test_of_several_as_short_the_one_with_the_least_low(self):
        self.assertEqual(bits_of((1, 8), (7, 8)), "1")
        self.assertEqual(bits_of((0, 1), (15, 16)), "0")
        # Both 01 and 10 lie in it.
        self.assertEqual(bits_of((3, 16), (5, 8)), "01")
        # Both 011 and 100 lie in it, and nothing shorter.
        self.assertEqual(bits_of((3, 8), (1, 4)), "011")

    def test_all_spans_of_small_bottoms(self):
        for bottom in range(1, 25):
            for start in range(bottom):
                for end in range(start + 1, bottom + 1):
                    self.assert_bits(Fraction(start, bottom), Fraction(end - start, bottom))

    def test_low_and_width_with_unlike_bottoms(self):
        for low_bottom in (1, 2, 3, 5, 8):
            for bottom in (2, 3, 7, 16):
                for start in range(low_bottom):
                    low = Fraction(start, low_bottom)
                    for top in range(1, bottom):
                        if low + Fraction(top, bottom) <= 1:
                            self.assert_bits(low, Fraction(top, bottom))

    def test_drawn_spans(self):
        source = random.Random(2)
        for most in (10 ** 3, 10 ** 9, 10 ** 40, 10 ** 300):
            for _ in range(40):
                bottom = source.randrange(2, most)
                start, end = sorted((source.randrange(bottom), source.randrange(bottom)))
                self.assert_bits(Fraction(start, bottom), Fraction(end + 1 - start, bottom))

    def test_narrow_spans(self):
        for size in (1, 7, 64, 300):
            width = Fraction(1, 2 ** size)
            for low in (Fraction(0), 1 - width, Fraction(1, 3), Fraction(2, 3) - width, Fraction(1, 2), Fraction(1, 2) - width / 2):
                if low >= 0:
                    self.assert_bits(low, width)
                    self.assert_bits(low, width * Fraction(2, 3))

    def test_the_bits_of_a_stretch_are_the_bits(self):
        for bits in texts_to("01", 7):
            self.assertEqual(bits_of(*stretch(bits)), bits)

    def test_each_shorter_or_lower_one_lies_outside(self):
        source = random.Random(3)
        for _ in range(60):
            start, end = sorted(source.sample(range(1000), 2))
            low, width = Fraction(start, 999), Fraction(end - start, 999)
            bits = bits_of(as_told(low), as_told(width))
            if len(bits) > 9:
                continue
            within = []
            for other in texts_to("01", len(bits)):
                other_low, other_width = map(as_fraction, stretch(other))
                if other_low >= low and other_low + other_width <= low + width:
                    within.append((len(other), other_low, other))
            self.assertEqual(min(within)[2], bits)

    def test_thousands_of_figures(self):
        great = 10 ** 3999
        low, width = Fraction(great // 3, great), Fraction(1, great)
        bits = bits_of(as_told(low), as_told(width))
        told_low, told_width = map(as_fraction, stretch(bits))
        self.assertTrue(low <= told_low and told_low + told_width <= low + width)
        self.assertLess(2 ** len(bits) * width, 4)


if __name__ == "__main__":
    unittest.main()
