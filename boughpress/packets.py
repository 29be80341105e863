"""Packets: a frame and a text, pressed, in one text with a check."""

from boughpress.bits import bits_in_twos, number_in_twos, stretch
from boughpress.errors import NoPacket
from boughpress.frames import are_figures, are_letters, is_depth, make_frame
from boughpress.press import MOST_SIGNS, press
from boughpress.spans import text_at

GROUP_SIGNS = "abcdefghijklmnopqrstuvwxyz234567"
GROUP_SIZE = 5
CHECK_SIGNS = "ABCDEFGHIJ"
CHECK_SIZE = 2
CHECK_DIVISOR = 97
LENGTH_SIZE = 3


def grouped(bits):
    told = ""
    for at in range(0, len(bits), GROUP_SIZE):
        group = bits[at:at + GROUP_SIZE].ljust(GROUP_SIZE, "0")
        told += GROUP_SIGNS[number_in_twos(group)]
    return told


def check_of(body):
    total = 0
    for place, sign in enumerate(body, start=1):
        total += ord(sign) * place
    rest = total % CHECK_DIVISOR
    return CHECK_SIGNS[rest // 10] + CHECK_SIGNS[rest % 10]


def wrap(frame, text):
    letters = frame[0]
    bits = press(frame, text)
    body = str(frame[1]) + str(len(letters)) + letters + str(len(text)).zfill(LENGTH_SIZE) + grouped(bits)
    return body + check_of(body)


def number_in(text, many):
    if len(text) != many or not are_figures(text):
        raise NoPacket("other signs stand where figures have to")
    return int(text)


def unpacked_frame(depth, letters):
    if not are_letters(letters) or not is_depth(depth):
        raise NoPacket("a packet tells a frame")
    return make_frame(letters, depth)


def unpacked_length(text):
    many = number_in(text, LENGTH_SIZE)
    if many > MOST_SIGNS:
        raise NoPacket("a packet tells a text of at most 100 signs")
    return many


def filled_bits(groups):
    if not all([sign in GROUP_SIGNS for sign in groups]):
        raise NoPacket("a group is written by another sign")
    return "".join([bits_in_twos(GROUP_SIGNS.index(sign), GROUP_SIZE) for sign in groups])


def checked_body(packet):
    body = packet[:-CHECK_SIZE]
    if body + check_of(body) != packet:
        raise NoPacket("the check does not fit")
    return body


def unwrap(packet):
    body = checked_body(packet)
    depth = number_in(body[:1], 1)
    length_at = 2 + number_in(body[1:2], 1)
    frame = unpacked_frame(depth, body[2:length_at])
    groups_at = length_at + LENGTH_SIZE
    many = unpacked_length(body[length_at:groups_at])
    # How many bits only fill up the last group is not told, but such noughts leave the low of the stretch as it is.
    text = text_at(frame, many, stretch(filled_bits(body[groups_at:]))[0])
    if wrap(frame, text) != packet:
        raise NoPacket("no text has these groups")
    return (frame, text)
