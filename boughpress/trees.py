"""Trees of a frame: None is a leaf, a tuple holds a branch for each letter."""

from boughpress.counts import count_table
from boughpress.errors import NoTree
from boughpress.frames import checked
from boughpress.ratios import product
from boughpress.worths import worth


def is_tree_of(letters, thing, steps):
    # No more than the steps that are left are walked, however deep the thing goes.
    if thing is None:
        return True
    if steps == 0 or not isinstance(thing, tuple) or len(thing) != len(letters):
        return False
    return all([is_tree_of(letters, branch, steps - 1) for branch in thing])


def is_tree(frame, thing):
    return is_tree_of(frame[0], thing, frame[1])


def checked_tree(frame, thing):
    # The thing is not shown in the refusal: it may go too deep to be written.
    if not is_tree(frame, thing):
        raise NoTree("that is no tree of the frame")
    return thing


def price_of(tree, steps):
    if steps == 0:
        return 0
    if tree is None:
        return 1
    return 1 + sum([price_of(branch, steps - 1) for branch in tree])


def price(frame, tree):
    return price_of(checked_tree(frame, tree), frame[1])


def leaves_behind(letters, tree, knot):
    if tree is None:
        return [knot]
    told = []
    for letter, branch in zip(letters, tree):
        told.extend(leaves_behind(letters, branch, knot + letter))
    return told


def leaves(frame, tree):
    return leaves_behind(frame[0], checked_tree(frame, tree), "")


def worth_by(frame, tree, text):
    knots = leaves(frame, tree)
    table = count_table(frame, checked(frame, text))
    # A leaf in which no place falls has the worth 1.
    return product([worth(table[knot]) for knot in knots if knot in table])
