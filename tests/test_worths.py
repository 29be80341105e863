"""The shares of letters and the worths of counts: points 1, 7 and 8."""

import inspect
import random
import unittest
from fractions import Fraction
from itertools import permutations, product

from boughpress import worths as module
from boughpress.worths import share, worth
from plainly import as_fraction, as_told, plain_worth


def worth_in_order(size, signs):
    """The product of the shares of the letters at these places as they come, one by one."""
    ahead = [0] * size
    told = Fraction(1)
    for place in signs:
        told *= Fraction(2 * ahead[place] + 1, 2 * sum(ahead) + size)
        ahead[place] += 1
    return told


class InterfaceTest(unittest.TestCase):
    def test_interface(self):
        self.assertEqual(list(inspect.signature(module.share).parameters), ["counts", "place"])
        self.assertEqual(list(inspect.signature(module.worth).parameters), ["counts"])


class ShareTest(unittest.TestCase):
    def test_by_hand(self):
        self.assertEqual(share([0, 0], 0), (1, 2))
        self.assertEqual(share([1, 0], 0), (3, 4))
        self.assertEqual(share([1, 0], 1), (1, 4))
        self.assertEqual(share([3, 1], 0), (7, 10))
        self.assertEqual(share([3, 1], 1), (3, 10))
        self.assertEqual(share([0, 0, 0], 2), (1, 3))
        self.assertEqual(share([2, 1, 0], 0), (5, 9))
        self.assertEqual(share([2, 1, 0], 1), (1, 3))
        self.assertEqual(share([2, 1, 0], 2), (1, 9))
        self.assertEqual(share([0, 0, 0, 0, 0, 4], 5), (9, 14))

    def test_counts_of_nought_alone(self):
        for size in range(2, 7):
            for place in range(size):
                self.assertEqual(share([0] * size, place), (1, size))

    def test_small_counts(self):
        for size in range(2, 5):
            for counts in product(range(4), repeat=size):
                shares = [as_fraction(share(list(counts), place)) for place in range(size)]
                self.assertEqual(sum(shares), 1)
                for place, value in enumerate(shares):
                    self.assertEqual(value, Fraction(2 * counts[place] + 1, 2 * sum(counts) + size))

    def test_great_counts(self):
        great = 10 ** 3999
        self.assertEqual(share([great, 0], 0), as_told(Fraction(2 * great + 1, 2 * great + 2)))
        for counts in ([400, 0], [0, 400, 0], [123, 45, 6, 78, 90, 11], [great, great + 1, 3]):
            shares = [as_fraction(share(counts, place)) for place in range(len(counts))]
            self.assertEqual(sum(shares), 1)
            self.assertEqual(shares[-1], Fraction(2 * counts[-1] + 1, 2 * sum(counts) + len(counts)))

    def test_the_list_handed_in_stays(self):
        counts = [2, 0, 1]
        share(counts, 1)
        self.assertEqual(counts, [2, 0, 1])


class WorthTest(unittest.TestCase):
    def test_by_hand(self):
        self.assertEqual(worth([1, 0]), (1, 2))
        self.assertEqual(worth([0, 1]), (1, 2))
        self.assertEqual(worth([1, 1]), (1, 8))
        self.assertEqual(worth([2, 0]), (3, 8))
        self.assertEqual(worth([2, 1]), (1, 16))
        self.assertEqual(worth([3, 0]), (5, 16))
        self.assertEqual(worth([1, 0, 0]), (1, 3))
        self.assertEqual(worth([1, 1, 0]), (1, 15))
        self.assertEqual(worth([1, 1, 1]), (1, 105))
        self.assertEqual(worth([0, 2, 0]), (1, 5))
        self.assertEqual(worth([0, 0, 0, 0, 0, 2]), (1, 16))

    def test_counts_of_nought_alone(self):
        for size in range(2, 7):
            self.assertEqual(worth([0] * size), (1, 1))

    def test_small_counts_in_whatever_order(self):
        for size, most in ((2, 5), (3, 3), (4, 2)):
            for counts in product(range(most), repeat=size):
                told = as_fraction(worth(list(counts)))
                signs = [place for place in range(size) for _ in range(counts[place])]
                self.assertEqual(told, worth_in_order(size, signs))
                self.assertEqual(told, worth_in_order(size, signs[::-1]))
                random.Random(str(counts)).shuffle(signs)
                self.assertEqual(told, worth_in_order(size, signs))

    def test_the_places_do_not_matter(self):
        for counts in permutations([3, 0, 2, 5]):
            self.assertEqual(worth(list(counts)), worth([0, 2, 3, 5]))

    def test_one_letter_more_brings_its_share(self):
        for counts in ([0, 0], [4, 2], [1, 0, 7], [2, 2, 2, 2, 2, 2]):
            for place in range(len(counts)):
                more = list(counts)
                more[place] += 1
                self.assertEqual(
                    as_fraction(worth(more)), as_fraction(worth(counts)) * as_fraction(share(counts, place))
                )

    def test_great_counts(self):
        for counts in ([400, 0], [0, 400], [200, 200], [1, 399], [100, 100, 200], [70, 60, 80, 50, 90, 50], [0] * 5 + [400]):
            self.assertEqual(as_fraction(worth(counts)), plain_worth(counts))

    def test_the_list_handed_in_stays(self):
        counts = [2, 0, 1]
        worth(counts)
        self.assertEqual(counts, [2, 0, 1])


if __name__ == "__main__":
    unittest.main()
