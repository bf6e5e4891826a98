"""Pieces, tuples (kind, number, answer, room, held, signs), and the frames that they are written to."""

from slowroad.bounds import is_from
from slowroad.errors import NoFrame, NoPiece, Spoilt

# The place of a kind, or of a sign, in its row here is what a frame bears for it.
KINDS = ("bare", "signs", "begin", "end", "ask")
SIGNS = " !\"#$&'()*+,-./0123456789:;<=>?@ABCDEFGHIJKLMNOPQRSTUVWXYZ[\\]^_`abcdefghijklmnopqrstuvwxyz{|}~"

UNNUMBERED = ("bare", "ask")
NUMBER_MOST = 63
ROOM_MOST = 16
HELD_MOST = 15
SIGNS_MOST = 4

FRAME_BITS = 74
CHECK_BITS = 8
DIVISOR = 263
DIVISOR_BITS = 9
REMAINDER_MOST = 255

# What a frame bears may name no kind or no sign; these stand there then, and is_piece turns them down.
NO_KIND = ""
NO_SIGN = "\n"


def is_piece(thing):
    if not isinstance(thing, tuple) or len(thing) != 6:
        return False
    kind = thing[0]
    return (
        kind in KINDS
        and is_from(thing[1], 0, 0 if kind in UNNUMBERED else NUMBER_MOST)
        and is_from(thing[2], 0, NUMBER_MOST)
        and is_from(thing[3], 0, ROOM_MOST)
        and is_held(thing[4])
        and are_signs(kind, thing[5])
    )


def is_held(held):
    if not isinstance(held, tuple):
        return False
    last = 0
    for step in held:
        if not is_from(step, last + 1, HELD_MOST):
            return False
        last = step
    return True


def are_signs(kind, signs):
    if kind != "signs":
        return signs == ""
    if not isinstance(signs, str) or not 1 <= len(signs) <= SIGNS_MOST:
        return False
    return all([sign in SIGNS for sign in signs])


def remainder(bits):
    left = bits
    while left > REMAINDER_MOST:
        left = left ^ (DIVISOR << (left.bit_length() - DIVISOR_BITS))
    return left


def written(piece):
    if not is_piece(piece):
        raise NoPiece(piece)
    unchecked = body_of(piece) << CHECK_BITS
    return unchecked | remainder(unchecked)


def body_of(piece):
    body = KINDS.index(piece[0])
    body = (body << 6) | piece[1]
    body = (body << 6) | piece[2]
    body = (body << 5) | piece[3]
    body = (body << 15) | bits_of_held(piece[4])
    body = (body << 3) | len(piece[5])
    return (body << 28) | bits_of_signs(piece[5])


def bits_of_held(held):
    return sum([1 << (step - 1) for step in held])


def bits_of_signs(signs):
    bits = 0
    # A sign that lacks is written 0, just as the blank is.
    for sign in signs.ljust(SIGNS_MOST):
        bits = (bits << 7) | SIGNS.index(sign)
    return bits


def is_frame(number):
    return number >= 0 and number >> FRAME_BITS == 0


def read(frame):
    if not is_frame(frame):
        raise NoFrame(frame)
    if remainder(frame) != 0:
        raise Spoilt(frame)
    piece = likely_piece(frame >> CHECK_BITS)
    # Bits that stand where there is no sign are not in the piece: they show only when it is written again.
    if not is_piece(piece) or written(piece) != frame:
        raise NoPiece(frame)
    return piece


def likely_piece(body):
    return (
        kind_of(body >> 63),
        (body >> 57) & 63,
        (body >> 51) & 63,
        (body >> 46) & 31,
        held_of(body >> 31),
        signs_of(body)[: (body >> 28) & 7],
    )


def kind_of(code):
    return KINDS[code] if code < len(KINDS) else NO_KIND


def held_of(bits):
    return tuple([step for step in range(1, HELD_MOST + 1) if (bits >> (step - 1)) & 1 == 1])


def signs_of(bits):
    return "".join([sign_of((bits >> shift) & 127) for shift in (21, 14, 7, 0)])


def sign_of(code):
    return SIGNS[code] if code < len(SIGNS) else NO_SIGN
