"""A text that grows and shrinks at its end, with the worths and weights of its knots kept beside it."""

from boughpress.counts import no_counts
from boughpress.elders import elders_at
from boughpress.ratios import ONE, half, plus, product, times
from boughpress.worths import share

COUNTS = 0
WORTH = 1
WEIGHT = 2


def raised(counts, place):
    told = list(counts)
    told[place] += 1
    return told


# A knot's counts, worth and weight stand together in one entry, so that a step back brings back all of them at once.
class Growth:
    def __init__(self, frame):
        self.frame = frame
        self.text = ""
        self.table = {}
        self.replaced = []

    def entry(self, knot):
        return self.table.get(knot, (no_counts(self.frame), ONE, ONE))

    # The changed branch comes beside, as a tuple (knot, entry), since the table does not have it yet.
    def branching(self, knot, changed):
        weights = []
        for letter in self.frame[0]:
            if knot + letter == changed[0]:
                weights.append(changed[1][WEIGHT])
            else:
                weights.append(self.entry(knot + letter)[WEIGHT])
        return product(weights)

    # Tuples (knot, entry), the deepest first, since the weight of a knot is made of those of its branches.
    def changes(self, sign):
        place = self.frame[0].index(sign)
        path = elders_at(self.frame, self.text, len(self.text))
        told = []
        for size in range(len(path), -1, -1):
            knot = path[:size]
            entry = self.entry(knot)
            worth = times(entry[WORTH], share(entry[COUNTS], place))
            weight = worth
            if size < len(path):
                weight = half(plus(worth, self.branching(knot, told[-1])))
            told.append((knot, (raised(entry[COUNTS], place), worth, weight)))
        return told

    def weight(self):
        return self.entry("")[WEIGHT]

    def weight_with(self, sign):
        return self.changes(sign)[-1][1][WEIGHT]

    def grow(self, sign):
        changed = self.changes(sign)
        self.replaced.append([(knot, self.table.get(knot)) for knot, entry in changed])
        for knot, entry in changed:
            self.table[knot] = entry
        self.text += sign

    def shrink(self):
        earlier = self.replaced.pop()
        for knot, entry in earlier:
            if entry is None:
                self.table.pop(knot)
            else:
                self.table[knot] = entry
        self.text = self.text[:-1]


def grown(frame, text):
    growth = Growth(frame)
    for sign in text:
        growth.grow(sign)
    return growth
