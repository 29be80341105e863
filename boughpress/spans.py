"""The spans of texts: all texts with as many signs lie one behind the other from 0 to 1."""

from boughpress.frames import checked
from boughpress.growing import grown
from boughpress.ratios import NOUGHT, over, plus, times, under


# The weights of the texts that have another letter, ahead of the sign in the letters' order, in its place.
def weight_ahead(growth, sign):
    letters = growth.frame[0]
    told = NOUGHT
    for letter in letters[:letters.index(sign)]:
        told = plus(told, growth.weight_with(letter))
    return told


def span(frame, text, ahead=""):
    checked(frame, ahead)
    checked(frame, text)
    growth = grown(frame, ahead)
    whole = growth.weight()
    low = NOUGHT
    for sign in text:
        low = plus(low, weight_ahead(growth, sign))
        growth.grow(sign)
    return (over(low, whole), over(growth.weight(), whole))


# The letter in whose part, of those that lie one behind the other from the low on, the point lies; and that part's low.
def letter_at(growth, low, point):
    letters = growth.frame[0]
    for letter in letters[:-1]:
        high = plus(low, growth.weight_with(letter))
        if under(point, high):
            return (letter, low)
        low = high
    # The parts leave no gap, so what lies behind all others lies in the last one.
    return (letters[-1], low)


# The text of so many signs, behind the one ahead, in whose span the point, from 0 to below 1, lies.
def text_at(frame, many, point, ahead=""):
    growth = grown(frame, ahead)
    # Weighed by the text ahead, the point lies among the weights, and no step has to be divided.
    point = times(point, growth.weight())
    low = NOUGHT
    for turn in range(many):
        found = letter_at(growth, low, point)
        growth.grow(found[0])
        low = found[1]
    return growth.text[len(ahead):]
