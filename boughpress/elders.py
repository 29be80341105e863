"""The elders of a place: the signs ahead of it, the nearest first."""

from boughpress.errors import NoPlace
from boughpress.frames import checked


def elders_at(frame, text, at):
    first_letter = frame[0][0]
    depth = frame[1]
    near = text[max(0, at - depth):at]
    # Ahead of the text's begin stands the first letter, without end.
    return "".join(reversed(near)) + first_letter * (depth - len(near))


def elders(frame, text, at):
    checked(frame, text)
    if not 0 <= at <= len(text):
        raise NoPlace("the place lies outside the text")
    return elders_at(frame, text, at)
