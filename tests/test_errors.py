"""The refusals: point 1 and the interface of boughpress/errors.py."""

import unittest

from boughpress import errors
from boughpress.errors import PressError

NAMES = (
    "NoFraction", "NoFrame", "NoText", "NoPlace", "NoKnot", "NoTree", "NoSign",
    "NothingTaken", "NoBits", "NoPress", "NoPacket", "NoRow", "NoName", "NoNumber",
)


class ErrorsTest(unittest.TestCase):
    def test_a_press_error_is_a_value_error(self):
        self.assertTrue(issubclass(PressError, ValueError))
        self.assertIsNot(PressError, ValueError)

    def test_every_refusal_is_a_press_error_and_a_value_error(self):
        self.assertEqual(len(NAMES), 14)
        for name in NAMES:
            with self.subTest(name=name):
                refusal = getattr(errors, name)
                self.assertEqual(refusal.__name__, name)
                self.assertIsNot(refusal, PressError)
                for above in (refusal, PressError, ValueError):
                    with self.assertRaises(above):
                        raise refusal("so")

    def test_no_refusal_stands_under_another_one(self):
        for one in NAMES:
            for other in NAMES:
                if one != other:
                    with self.subTest(one=one, other=other):
                        self.assertFalse(issubclass(getattr(errors, one), getattr(errors, other)))


if __name__ == "__main__":
    unittest.main()
