"""What the document says, reckoned as plainly as can be, for the tests to hold the program against."""

import random
from fractions import Fraction
from itertools import product
from math import gcd

FRAMES = [
    ("ab", 0), ("ba", 0), ("ab", 1), ("ba", 2), ("ab", 3), ("xa", 6), ("abc", 0), ("cab", 1), ("bca", 2), ("~ a", 3),
    ("dcba", 1), ("01ba", 2), ("edcba", 1), ("badce", 4), ("fedcba", 0), ("fbdcea", 2), ("abcdef", 6),
]


def texts_of(letters, size):
    """All texts of so many letters, in the order of texts."""
    return ["".join(signs) for signs in product(letters, repeat=size)]


def texts_to(letters, most):
    return [text for size in range(most + 1) for text in texts_of(letters, size)]


def drawn_text(source, letters, size):
    """A text in which the letters follow each other unevenly, so that trees matter."""
    text = ""
    while len(text) < size:
        if text and source.random() < 0.5:
            text += letters[(letters.index(text[-1]) + 1) % len(letters)]
        else:
            text += source.choice(letters)
    return text


def drawn_texts(seed, letters, sizes):
    source = random.Random(seed)
    return [drawn_text(source, letters, size) for size in sizes]


def even_text(seed, letters, size):
    source = random.Random(seed)
    return "".join(source.choice(letters) for _ in range(size))


def as_fraction(told):
    """The value of a told fraction, which has to be one: a tuple of two whole numbers in lowest terms."""
    assert type(told) is tuple and len(told) == 2, told
    assert type(told[0]) is int and type(told[1]) is int, told
    assert told[1] >= 1 and gcd(told[0], told[1]) == 1, told
    return Fraction(told[0], told[1])


def as_told(value):
    value = Fraction(value)
    return (value.numerator, value.denominator)


def plain_elders(frame, text, at):
    letters, depth = frame
    told = ""
    for step in range(1, depth + 1):
        told += text[at - step] if at - step >= 0 else letters[0]
    return told


def plain_counts(frame, text, knot):
    told = []
    for letter in frame[0]:
        falling = [at for at in range(len(text)) if plain_elders(frame, text, at).startswith(knot)]
        told.append(len([at for at in falling if text[at] == letter]))
    return told


def plain_knots(frame, text):
    letters, depth = frame
    found = {plain_elders(frame, text, at)[:size] for at in range(len(text)) for size in range(depth + 1)}
    return sorted(found, key=lambda knot: [letters.index(sign) for sign in knot])


def plain_worth(counts):
    """Letter by letter, the first of the list first."""
    ahead = [0] * len(counts)
    told = Fraction(1)
    for place, many in enumerate(counts):
        for _ in range(many):
            told *= Fraction(2 * ahead[place] + 1, 2 * sum(ahead) + len(ahead))
            ahead[place] += 1
    return told


def all_trees(frame, steps=None):
    letters, depth = frame
    steps = depth if steps is None else steps
    if steps == 0:
        return [None]
    return [None, *product(all_trees(frame, steps - 1), repeat=len(letters))]


def drawn_tree(source, frame, knot=""):
    """A tree that branches less often the deeper it goes, so that it stays below 1,000 knots."""
    letters, depth = frame
    if len(knot) == depth or source.random() > 1.6 / len(letters):
        return None
    return tuple(drawn_tree(source, frame, knot + letter) for letter in letters)


def drawn_trees(seed, frame, many):
    source = random.Random(seed)
    return [drawn_tree(source, frame) for _ in range(many)]


def full_tree(frame, steps):
    return None if steps == 0 else (full_tree(frame, steps - 1),) * len(frame[0])


def tree_knots(frame, tree, knot=""):
    """All knots of a tree, each with whether it is a leaf."""
    told = [(knot, tree is None)]
    if tree is not None:
        for letter, branch in zip(frame[0], tree):
            told += tree_knots(frame, branch, knot + letter)
    return told


def plain_price(frame, tree):
    return len([knot for knot, _ in tree_knots(frame, tree) if len(knot) < frame[1]])


def plain_leaves(frame, tree):
    found = [knot for knot, is_leaf in tree_knots(frame, tree) if is_leaf]
    return sorted(found, key=lambda knot: [frame[0].index(sign) for sign in knot])


def plain_worth_by(frame, tree, text):
    told = Fraction(1)
    for leaf in plain_leaves(frame, tree):
        told *= plain_worth(plain_counts(frame, text, leaf))
    return told


def plain_written(tree):
    return "." if tree is None else "(" + "".join(plain_written(branch) for branch in tree) + ")"


def plain_weight(frame, text, knot=""):
    """The weight of a knot, by the words of point 13."""
    counts = plain_counts(frame, text, knot)
    if sum(counts) == 0:
        return Fraction(1)
    if len(knot) == frame[1]:
        return plain_worth(counts)
    branching = Fraction(1)
    for letter in frame[0]:
        branching *= plain_weight(frame, text, knot + letter)
    return (plain_worth(counts) + branching) / 2


def weight_over_trees(frame, text):
    """The weight of a text, by the words of point 2."""
    return sum(
        Fraction(1, 2 ** plain_price(frame, tree)) * plain_worth_by(frame, tree, text) for tree in all_trees(frame)
    )


def tree_at(tree, frame, knot):
    """The part of a tree at a knot; False where it has no such knot."""
    for sign in knot:
        if tree is None:
            return False
        tree = tree[frame[0].index(sign)]
    return tree


def plain_best(frame, text):
    """The best of a text by the words of point 15, out of all trees of the frame."""
    values = [
        (Fraction(1, 2 ** plain_price(frame, tree)) * plain_worth_by(frame, tree, text), tree)
        for tree in all_trees(frame)
    ]
    greatest = max(value for value, _ in values)
    having = [tree for value, tree in values if value == greatest]
    for knot in texts_to(frame[0], frame[1]):
        as_leaf = [tree for tree in having if tree_at(tree, frame, knot) is None]
        having = as_leaf or having
    assert len(having) == 1
    return (as_told(greatest), having[0])


def plain_bits_of(low, width):
    """The bits of a span by the words of point 18, each number of bits looked at from none on."""
    size = 0
    while True:
        parts = 2 ** size
        place = -((-low * parts) // 1)
        if Fraction(place + 1, parts) <= low + width:
            return format(place, "b").zfill(size) if size else ""
        size += 1


def plain_check(body):
    rest = sum(ord(sign) * place for place, sign in enumerate(body, 1)) % 97
    return "ABCDEFGHIJ"[rest // 10] + "ABCDEFGHIJ"[rest % 10]


def plain_groups(bits):
    bits += "0" * (-len(bits) % 5)
    groups = [bits[at:at + 5] for at in range(0, len(bits), 5)]
    return "".join("abcdefghijklmnopqrstuvwxyz234567"[int(group, 2)] for group in groups)


def plain_packet(frame, many, groups):
    """A packet with a right check over whatever is told."""
    letters, depth = frame
    body = f"{depth}{len(letters)}{letters}{many:03}{groups}"
    return body + plain_check(body)
