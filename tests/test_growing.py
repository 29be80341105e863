"""A growing text against what its text tells at each time."""

import random
import unittest

from boughpress.counts import counts, knots
from boughpress.growing import Growth, grown
from boughpress.weighed import weight
from plainly import FRAMES, drawn_texts


class GrowthTest(unittest.TestCase):
    def assert_as_its_text(self, growth, frame, text):
        self.assertEqual(growth.text, text)
        self.assertEqual(growth.weight(), weight(frame, text))
        self.assertEqual(sorted(growth.table), sorted(knots(frame, text)))
        for knot, entry in growth.table.items():
            self.assertEqual(entry[0], counts(frame, text, knot))
        self.assertEqual(growth.table, grown(frame, text).table)

    def test_grown_and_shrunk_in_many_orders(self):
        for frame in FRAMES:
            source = random.Random(1)
            growth = Growth(frame)
            text = ""
            for _ in range(40):
                if text and source.random() < 0.45:
                    growth.shrink()
                    text = text[:-1]
                else:
                    sign = source.choice(frame[0])
                    growth.grow(sign)
                    text += sign
                self.assert_as_its_text(growth, frame, text)

    def test_the_weight_with_a_sign_behind_changes_nothing(self):
        for frame in FRAMES:
            text = drawn_texts(2, frame[0], (10,))[0]
            growth = grown(frame, text)
            for letter in frame[0]:
                self.assertEqual(growth.weight_with(letter), weight(frame, text + letter))
                self.assert_as_its_text(growth, frame, text)

    def test_shrunk_to_nothing(self):
        for frame in FRAMES:
            growth = grown(frame, drawn_texts(3, frame[0], (12,))[0])
            for _ in range(12):
                growth.shrink()
            self.assert_as_its_text(growth, frame, "")


if __name__ == "__main__":
    unittest.main()
