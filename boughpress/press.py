"""Texts pressed to bits, and bits read back to texts."""

from boughpress.bits import bits_of, stretch
from boughpress.errors import NoPress
from boughpress.frames import checked
from boughpress.spans import span, text_at

MOST_SIGNS = 100


def press(frame, text, ahead=""):
    told = span(frame, text, ahead)
    return bits_of(told[0], told[1])


def read(frame, many, bits, ahead=""):
    checked(frame, ahead)
    low = stretch(bits)[0]
    if not 0 <= many <= MOST_SIGNS - len(ahead):
        raise NoPress("no text with so many signs is pressed")
    # A text that is pressed to the bits has their stretch in its span, so no other text comes into question.
    text = text_at(frame, many, low, ahead)
    if press(frame, text, ahead) != bits:
        raise NoPress("no text is pressed to these bits")
    return text
