"""Bits, the stretches that they tell, and the shortest bits of a span."""

from boughpress.errors import NoBits
from boughpress.ratios import fraction, plus


def is_bits(thing):
    return isinstance(thing, str) and all([sign in "01" for sign in thing])


def number_in_twos(bits):
    told = 0
    for sign in bits:
        told *= 2
        if sign == "1":
            told += 1
    return told


def bits_in_twos(number, many):
    signs = []
    for turn in range(many):
        signs.append("01"[number % 2])
        number = number // 2
    return "".join(reversed(signs))


def stretch(bits):
    if not is_bits(bits):
        raise NoBits("bits are a text of the signs 0 and 1")
    parts = 1
    for sign in bits:
        parts *= 2
    return (fraction(number_in_twos(bits), parts), fraction(1, parts))


def first_place(low, parts):
    # Rounded up, since a stretch that lies in a span begins no earlier than it.
    return (low[0] * parts + low[1] - 1) // low[1]


def bits_of(low, width):
    end = plus(low, width)
    many = 0
    parts = 1
    # No stretch that is wider than the span lies in it.
    while width[0] * parts < width[1]:
        many += 1
        parts *= 2
    # The first stretch that begins in the span has the least low; where it ends beyond the span, so do all others.
    while (first_place(low, parts) + 1) * end[1] > end[0] * parts:
        many += 1
        parts *= 2
    return bits_in_twos(first_place(low, parts), many)
