"""The shares of letters told by counts, and the worth of counts."""

from boughpress.ratios import fraction


def share(counts, place):
    return fraction(2 * counts[place] + 1, 2 * sum(counts) + len(counts))


def worth(counts):
    # The shares' tops and bottoms are gathered apart, so that only one fraction is brought to lowest terms.
    top = 1
    for count in counts:
        for ahead in range(count):
            top *= 2 * ahead + 1
    bottom = 1
    for ahead in range(sum(counts)):
        bottom *= 2 * ahead + len(counts)
    return fraction(top, bottom)
