"""What the document says, reckoned as plainly as can be, for the tests to hold the program against."""

import random
from fractions import Fraction
from itertools import product
from math import gcd

FRAMES = [
    ("ab", 0), ("ba", 0), ("ab", 1), ("ba", 2), ("ab", 3), ("xa", 6), ("abc", 0), ("cab", 1), ("bca", 2), ("~ a", 3),
    ("dcba", 1), ("01ba", 2), ("edcba", 1), ("badce", 4), ("fedcba", 0), ("fbdcea", 2), ("abcdef", 6),
]


def texts_of(letters, size):
    """All texts of so many letters, in the order of texts."""
    return ["".join(signs) for signs in product(letters, repeat=size)]


def texts_to(letters, most):
    return [text for size in range(most + 1) for text in texts_of(letters, size)]


def drawn_text(source, letters, size):
    """A text in which the letters follow each other unevenly, so that trees matter."""
    text = ""
    while len(text) < size:
        if text and source.random() < 0.5:
            text += letters[(letters.index(text[-1]) + 1) % len(letters)]
        else:
            text += source.choice(letters)
    return text


def drawn_texts(seed, letters, sizes):
    source = random.Random(seed)
    return [drawn_text(source, letters, size) for size in sizes]


def even_text(seed, letters, size):
    source = random.Random(seed)
    return "".join(source.choice(letters) for _ in range(size))


def as_fraction(told):
    """The value of a told fraction, which has to be one: a tuple of two whole numbers in lowest terms."""
    assert type(told) is tuple and len(told) == 2, told
    assert type(told[0]) is int and type(told[1]) is int, told
    assert told[1] >= 1 and gcd(told[0], told[1]) == 1, told
    return Fraction(told[0], told[1])


def as_told(value):
    value = Fraction(value)
    return (value.numerator, value.denominator)


def plain_elders(frame, text, at):
    letters, depth = frame
    told = ""
    for step in range(1, depth + 1):
        told += text[at - step] if at - step >= 0 else letters[0]
    return told


def plain_counts(frame, text, knot):
    told = []
    for letter in frame[0]:
        falling = [at for at in range(len(text)) if plain_elders(frame, text, at).startswith(knot)]
        told.append(len([at for at in falling if text[at] == letter]))
    return told


def plain_knots(frame, text):
    letters, depth = frame
    found = {plain_elders(frame, text, at)[:size] for at in range(len(text)) for size in range(depth + 1)}
    return sorted(found, key=lambda knot: [letters.index(sign) for sign in knot])


def plain_worth(counts):
    """Letter by letter, the first of the list first."""
    ahead = [0] * len(counts)
    told = Fraction(1)
    for place, many in enumerate(counts):
        for _ in range(many):
            told *= Fraction(2 * ahead[place] + 1, 2 * sum(ahead) + len(ahead))
            ahead[place] += 1
    return told
