"""The spans of texts: all texts with as many signs lie one behind the other from 0 to 1."""

from boughpress.frames import checked
from boughpress.growing import grown
from boughpress.ratios import NOUGHT, over, plus, times, under


# Texts with a lesser letter in the place of the sign come ahead, whatever stands behind it.
def weight_ahead(growth, sign):
    letters = growth.frame[0]
    told = NOUGHT
    for letter in letters[:letters.index(sign)]:
        told = plus(told, growth.weight_with(letter))
    return told


def span(frame, text, ahead=""):
    checked(frame, ahead)
    checked(frame, text)
    growth = grown(frame, ahead)
    whole = growth.weight()
    low = NOUGHT
    for sign in text:
        low = plus(low, weight_ahead(growth, sign))
        growth.grow(sign)
    return (over(low, whole), over(growth.weight(), whole))


# The low of the letter's part is told with it, since the next letter's parts begin there.
def letter_at(growth, low, point):
    letters = growth.frame[0]
    for letter in letters[:-1]:
        high = plus(low, growth.weight_with(letter))
        if under(point, high):
            return (letter, low)
        low = high
    # The parts leave no gap, so what lies behind all others lies in the last one.
    return (letters[-1], low)


def text_at(frame, many, point, ahead=""):
    growth = grown(frame, ahead)
    # The point is brought among the weights once, so that no weight has to be divided.
    point = times(point, growth.weight())
    low = NOUGHT
    for turn in range(many):
        found = letter_at(growth, low, point)
        growth.grow(found[0])
        low = found[1]
    return growth.text[len(ahead):]
