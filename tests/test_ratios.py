"""Fractions: points 1 and 3."""

import inspect
import unittest
from fractions import Fraction
from math import gcd

from boughpress import ratios
from boughpress.errors import NoFraction, PressError
from boughpress.ratios import fraction, half, plus, times, under

MANY = int("7" + "1234567890" * 399 + "123456789")
MORE = int("9" + "8765432109" * 399 + "876543211")
SAMPLE = [
    (0, 1), (1, 1), (-1, 1), (2, 1), (-7, 1), (1, 2), (-1, 2), (1, 3), (-1, 3), (2, 3), (5, 6), (-5, 6),
    (3, 4), (-9, 4), (7, 12), (10 ** 30, 10 ** 30 + 1), (-(10 ** 30) - 1, 10 ** 30),
]


class RatiosCase(unittest.TestCase):
    def assert_fraction(self, told, value):
        self.assertIs(type(told), tuple)
        self.assertEqual(len(told), 2)
        for number in told:
            self.assertIs(type(number), int)
        self.assertGreaterEqual(told[1], 1)
        self.assertEqual(gcd(told[0], told[1]), 1)
        self.assertEqual(told, (value.numerator, value.denominator))


class FractionTest(RatiosCase):
    def test_interface(self):
        for name, arguments in (
            ("fraction", ["top", "bottom"]), ("plus", ["one", "other"]), ("times", ["one", "other"]),
            ("half", ["one"]), ("under", ["one", "other"]),
        ):
            self.assertEqual(list(inspect.signature(getattr(ratios, name)).parameters), arguments)

    def test_plain_ones(self):
        self.assertEqual(fraction(1, 2), (1, 2))
        self.assertEqual(fraction(3, 1), (3, 1))
        self.assertEqual(fraction(1, 1), (1, 1))

    def test_lowest_terms(self):
        self.assertEqual(fraction(2, 4), (1, 2))
        self.assertEqual(fraction(12, 18), (2, 3))
        self.assertEqual(fraction(18, 12), (3, 2))
        self.assertEqual(fraction(6, 3), (2, 1))
        self.assertEqual(fraction(5, 5), (1, 1))

    def test_below_nought(self):
        self.assertEqual(fraction(-1, 2), (-1, 2))
        self.assertEqual(fraction(1, -2), (-1, 2))
        self.assertEqual(fraction(-1, -2), (1, 2))
        self.assertEqual(fraction(-6, 4), (-3, 2))
        self.assertEqual(fraction(6, -4), (-3, 2))
        self.assertEqual(fraction(-6, -4), (3, 2))
        self.assertEqual(fraction(-4, 4), (-1, 1))

    def test_top_of_nought(self):
        for bottom in (1, -1, 7, -7, MANY, -MANY):
            self.assertEqual(fraction(0, bottom), (0, 1))

    def test_all_small_ones(self):
        for top in range(-24, 25):
            for bottom in range(-24, 25):
                if bottom != 0:
                    self.assert_fraction(fraction(top, bottom), Fraction(top, bottom))

    def test_many_figures(self):
        self.assertEqual((len(str(MANY)), len(str(MORE))), (4000, 4000))
        self.assert_fraction(fraction(MANY, MORE), Fraction(MANY, MORE))
        self.assert_fraction(fraction(-MANY, MORE), Fraction(-MANY, MORE))
        self.assert_fraction(fraction(MANY, -1), Fraction(-MANY))
        self.assert_fraction(fraction(1, MANY), Fraction(1, MANY))
        self.assertEqual(fraction(3 * 10 ** 3999, -6 * 10 ** 3999), (-1, 2))
        self.assertEqual(fraction(10 ** 3999 + 1, 10 ** 3999), (10 ** 3999 + 1, 10 ** 3999))

    def test_bottom_of_nought_is_refused(self):
        for top in (0, 1, -1, 12, MANY, -MANY):
            with self.subTest(top=top if abs(top) < 100 else "many"):
                with self.assertRaises(NoFraction) as refused:
                    fraction(top, 0)
                self.assertIsInstance(refused.exception, PressError)
                self.assertIsInstance(refused.exception, ValueError)

    def test_what_is_no_whole_number_is_refused(self):
        for thing in (True, False, 1.0, "1", None, (1, 2), [1], Fraction(1, 2)):
            with self.subTest(thing=thing):
                with self.assertRaises(NoFraction):
                    fraction(thing, 1)
                with self.assertRaises(NoFraction):
                    fraction(1, thing)


class ReckoningTest(RatiosCase):
    def test_sums(self):
        self.assertEqual(plus((1, 2), (1, 3)), (5, 6))
        self.assertEqual(plus((1, 6), (1, 3)), (1, 2))
        self.assertEqual(plus((1, 2), (1, 2)), (1, 1))
        self.assertEqual(plus((1, 2), (-1, 3)), (1, 6))
        self.assertEqual(plus((-1, 2), (1, 3)), (-1, 6))
        self.assertEqual(plus((3, 4), (-3, 4)), (0, 1))
        self.assertEqual(plus((0, 1), (3, 4)), (3, 4))
        self.assertEqual(plus((3, 4), (0, 1)), (3, 4))
        self.assertEqual(plus((0, 1), (0, 1)), (0, 1))

    def test_products(self):
        self.assertEqual(times((1, 2), (1, 3)), (1, 6))
        self.assertEqual(times((2, 3), (3, 4)), (1, 2))
        self.assertEqual(times((2, 3), (3, 2)), (1, 1))
        self.assertEqual(times((2, 3), (2, 3)), (4, 9))
        self.assertEqual(times((-2, 3), (3, 4)), (-1, 2))
        self.assertEqual(times((-2, 3), (-3, 4)), (1, 2))
        self.assertEqual(times((0, 1), (-3, 4)), (0, 1))
        self.assertEqual(times((-3, 4), (0, 1)), (0, 1))

    def test_halves(self):
        self.assertEqual(half((1, 1)), (1, 2))
        self.assertEqual(half((1, 3)), (1, 6))
        self.assertEqual(half((2, 3)), (1, 3))
        self.assertEqual(half((-2, 3)), (-1, 3))
        self.assertEqual(half((-3, 4)), (-3, 8))
        self.assertEqual(half((0, 1)), (0, 1))

    def test_under(self):
        self.assertIs(under((1, 3), (1, 2)), True)
        self.assertIs(under((1, 2), (1, 3)), False)
        self.assertIs(under((1, 2), (1, 2)), False)
        self.assertIs(under((-1, 2), (-1, 3)), True)
        self.assertIs(under((-1, 3), (-1, 2)), False)
        self.assertIs(under((-1, 2), (-1, 2)), False)
        self.assertIs(under((-1, 2), (1, 3)), True)
        self.assertIs(under((1, 3), (-1, 2)), False)
        self.assertIs(under((0, 1), (1, 9)), True)
        self.assertIs(under((0, 1), (-1, 9)), False)
        self.assertIs(under((-1, 9), (0, 1)), True)
        self.assertIs(under((0, 1), (0, 1)), False)

    def test_all_pairs_of_the_sample(self):
        for one in SAMPLE:
            self.assert_fraction(half(one), Fraction(*one) / 2)
            for other in SAMPLE:
                self.assert_fraction(plus(one, other), Fraction(*one) + Fraction(*other))
                self.assert_fraction(times(one, other), Fraction(*one) * Fraction(*other))
                self.assertIs(under(one, other), Fraction(*one) < Fraction(*other))

    def test_many_figures_are_exact(self):
        one = fraction(MANY, MORE)
        other = fraction(-MORE, MANY)
        self.assert_fraction(plus(one, other), Fraction(*one) + Fraction(*other))
        self.assertEqual(times(one, other), (-1, 1))
        self.assert_fraction(half(one), Fraction(*one) / 2)
        great = 10 ** 3999
        self.assertIs(under((great - 1, great), (great, great + 1)), True)
        self.assertIs(under((great, great + 1), (great - 1, great)), False)
        self.assertEqual(plus((great - 1, great), (1, great)), (1, 1))


if __name__ == "__main__":
    unittest.main()
