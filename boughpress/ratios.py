"""Exact fractions: tuples (top, bottom) in lowest terms, bottom from 1 on."""

from boughpress.errors import NoFraction
from boughpress.frames import is_whole

NOUGHT = (0, 1)
ONE = (1, 1)


def greatest_divisor(one, other):
    while other != 0:
        rest = one % other
        one = other
        other = rest
    return one


def fraction(top, bottom):
    if not is_whole(top) or not is_whole(bottom):
        raise NoFraction("a fraction is made of two whole numbers")
    if bottom == 0:
        raise NoFraction("nothing is divided by 0")
    divisor = greatest_divisor(abs(top), abs(bottom))
    # The divisor bears the bottom's sign, so that the bottom comes out above 0.
    if bottom < 0:
        divisor = -divisor
    return (top // divisor, bottom // divisor)


def plus(one, other):
    return fraction(one[0] * other[1] + other[0] * one[1], one[1] * other[1])


def times(one, other):
    return fraction(one[0] * other[0], one[1] * other[1])


def half(one):
    return fraction(one[0], 2 * one[1])


def over(one, other):
    return fraction(one[0] * other[1], one[1] * other[0])


def product(many):
    told = ONE
    for one in many:
        told = times(told, one)
    return told


def under(one, other):
    # Both bottoms are above 0, so multiplying by them turns nothing round.
    return one[0] * other[1] < other[0] * one[1]
