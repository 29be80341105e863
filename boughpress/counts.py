"""Knots, and how often each letter stands at the places that fall in them."""

from boughpress.elders import elders_at
from boughpress.errors import NoKnot
from boughpress.frames import checked, rank


def is_knot(frame, text):
    letters = frame[0]
    return len(text) <= frame[1] and all([sign in letters for sign in text])


def checked_knot(frame, knot):
    if not is_knot(frame, knot):
        raise NoKnot("a knot has letters alone, and no more than the depth")
    return knot


def path_knots(frame, text, at):
    path = elders_at(frame, text, at)
    return [path[:size] for size in range(len(path) + 1)]


def no_counts(frame):
    return [0] * len(frame[0])


def count_table(frame, text):
    letters = frame[0]
    table = {}
    for at, sign in enumerate(text):
        for knot in path_knots(frame, text, at):
            if knot not in table:
                table[knot] = no_counts(frame)
            table[knot][letters.index(sign)] += 1
    return table


def counts(frame, text, knot):
    checked(frame, text)
    checked_knot(frame, knot)
    return count_table(frame, text).get(knot, no_counts(frame))


def in_order(frame, texts):
    return sorted(texts, key=lambda text: rank(frame, text))


def knots(frame, text):
    checked(frame, text)
    return in_order(frame, list(count_table(frame, text)))
