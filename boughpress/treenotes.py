"""Trees written as texts and read back."""

from boughpress.errors import NoTree
from boughpress.trees import checked_tree


def written(tree):
    if tree is None:
        return "."
    return "(" + "".join([written(branch) for branch in tree]) + ")"


def show_tree(frame, tree):
    return written(checked_tree(frame, tree))


def sign_at(text, at):
    return text[at:at + 1]


# The place behind the tree is told with it, since the next branch is read from there on.
def read_branch(letters, text, at, steps):
    if sign_at(text, at) == ".":
        return (None, at + 1)
    # No more than the steps that are left are read, however deep the brackets stand.
    if steps == 0 or sign_at(text, at) != "(":
        raise NoTree("neither a leaf nor a branching stands where one has to")
    branches = []
    at += 1
    for letter in letters:
        branch = read_branch(letters, text, at, steps - 1)
        branches.append(branch[0])
        at = branch[1]
    if sign_at(text, at) != ")":
        raise NoTree("a branching is not closed where it has to be")
    return (tuple(branches), at + 1)


def read_tree(frame, text):
    if not isinstance(text, str):
        raise NoTree("a tree is read from a text")
    told = read_branch(frame[0], text, 0, frame[1])
    if told[1] != len(text):
        raise NoTree("signs stand behind the tree")
    return told[0]
