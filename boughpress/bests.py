"""The best of a text: the tree with the greatest share times worth."""

from boughpress.counts import count_table
from boughpress.frames import checked
from boughpress.ratios import ONE, half, product, under
from boughpress.worths import worth


# Where no place falls every worth is 1, so a leaf, which has the lowest price, is the best.
def best_of_none(frame, knot):
    if len(knot) == frame[1]:
        return (ONE, None)
    return (half(ONE), None)


# The price is counted from the knot on, since each knot above it pays for itself.
def best_from(frame, table, knot):
    if knot not in table:
        return best_of_none(frame, knot)
    leaf = worth(table[knot])
    if len(knot) == frame[1]:
        return (leaf, None)
    branches = [best_from(frame, table, knot + letter) for letter in frame[0]]
    branching = product([branch[0] for branch in branches])
    if under(leaf, branching):
        return (half(branching), tuple([branch[1] for branch in branches]))
    return (half(leaf), None)


def best(frame, text):
    return best_from(frame, count_table(frame, checked(frame, text)), "")
