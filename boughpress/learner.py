"""Learners: letters taken and taken back, and what may come behind them."""

from boughpress.counts import checked_knot
from boughpress.errors import NoSign, NothingTaken
from boughpress.frames import is_letter
from boughpress.growing import COUNTS, Growth
from boughpress.ratios import over


class Learner:
    def __init__(self, frame):
        self.frame = frame
        self.growth = Growth(frame)

    def take(self, sign):
        if not is_letter(self.frame, sign):
            raise NoSign("that is no letter of the frame")
        self.growth.grow(sign)

    def back(self, many):
        if many > len(self.growth.text):
            raise NothingTaken("fewer letters were taken")
        for turn in range(many):
            self.growth.shrink()

    def held(self):
        return self.growth.text

    def weighs(self):
        return self.growth.weight()

    def shares(self):
        whole = self.growth.weight()
        return [over(self.growth.weight_with(letter), whole) for letter in self.frame[0]]

    def counted(self, knot):
        # The growth's own list stays its own.
        return list(self.growth.entry(checked_knot(self.frame, knot))[COUNTS])
