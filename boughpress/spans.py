"""The spans of texts: all texts with as many signs lie one behind the other from 0 to 1."""

from boughpress.frames import checked
from boughpress.growing import grown
from boughpress.ratios import NOUGHT, over, plus


# The weights of the texts that have another letter, ahead of the sign in the letters' order, in its place.
def weight_ahead(growth, sign):
    letters = growth.frame[0]
    told = NOUGHT
    for letter in letters[:letters.index(sign)]:
        told = plus(told, growth.weight_with(letter))
    return told


def span(frame, text, ahead=""):
    checked(frame, ahead)
    checked(frame, text)
    growth = grown(frame, ahead)
    whole = growth.weight()
    low = NOUGHT
    for sign in text:
        low = plus(low, weight_ahead(growth, sign))
        growth.grow(sign)
    return (over(low, whole), over(growth.weight(), whole))
