"""The bits of a frame as a text of the signs 0 and 1, the highest bit first."""

from slowroad.errors import NoFrame
from slowroad.pieces import FRAME_BITS, is_frame


def bits_of(frame):
    if not is_frame(frame):
        raise NoFrame(frame)
    return "".join(["1" if (frame >> shift) & 1 == 1 else "0" for shift in range(FRAME_BITS - 1, -1, -1)])


def frame_of(text):
    if len(text) != FRAME_BITS or not all([sign in "01" for sign in text]):
        raise NoFrame(text)
    frame = 0
    for sign in text:
        frame = frame * 2 + (1 if sign == "1" else 0)
    return frame
