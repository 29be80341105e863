"""Whole numbers, signs, frames, and the texts of a frame's letters."""

from boughpress.errors import NoFrame, NoText

# Told by its number in ASCII, since no text of the program may hold the sign itself.
PER_CENT = 37
FEWEST_LETTERS = 2
MOST_LETTERS = 6
GREATEST_DEPTH = 6
FIGURES = "0123456789"


def is_whole(thing):
    # Python counts True and False among the ints; here they are no numbers.
    return isinstance(thing, int) and not isinstance(thing, bool)


def are_figures(text):
    return all([sign in FIGURES for sign in text])


def is_sign(thing):
    if not isinstance(thing, str) or len(thing) != 1:
        return False
    return " " <= thing <= "~" and ord(thing) != PER_CENT


def is_text(thing):
    return isinstance(thing, str) and all([is_sign(sign) for sign in thing])


def are_letters(thing):
    if not is_text(thing):
        return False
    return FEWEST_LETTERS <= len(thing) <= MOST_LETTERS and len(set(thing)) == len(thing)


def is_depth(thing):
    return is_whole(thing) and 0 <= thing <= GREATEST_DEPTH


def make_frame(letters, depth):
    if not are_letters(letters):
        raise NoFrame("the letters are no text of 2 to 6 unlike signs")
    if not is_depth(depth):
        raise NoFrame("the depth is no whole number from 0 to 6")
    return (letters, depth)


def is_letter(frame, thing):
    return is_sign(thing) and thing in frame[0]


def checked(frame, text):
    letters = frame[0]
    for sign in text:
        if sign not in letters:
            raise NoText(f"{sign!r} is no letter of the frame")
    return text


def rank(frame, text):
    # Lists are ordered number by number, a beginning first: just as texts of letters are.
    letters = frame[0]
    return [letters.index(sign) for sign in text]
