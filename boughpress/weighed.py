"""The weights of texts and of their knots: all trees weighed at once."""

from boughpress.counts import in_order
from boughpress.frames import checked
from boughpress.growing import WEIGHT, WORTH, grown


def weight(frame, text):
    return grown(frame, checked(frame, text)).weight()


def weigh_paper(frame, text):
    table = grown(frame, checked(frame, text)).table
    return [(knot, table[knot][WORTH], table[knot][WEIGHT]) for knot in in_order(frame, list(table))]
