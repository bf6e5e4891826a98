"""Terms: what both hands know of a talk ahead of it."""

from slowroad.bounds import is_from
from slowroad.errors import BadTerms, NotWide
from slowroad.fooling import need

RING_MOST = 64
ROOM_MOST = 16
LAG_MOST = 32
WAIT_LEAST = 2
WAIT_MOST = 64


def are_rooms(rooms):
    return isinstance(rooms, tuple) and len(rooms) == 2 and all([is_from(room, 1, ROOM_MOST) for room in rooms])


def are_waits(first, longest):
    return is_from(longest, WAIT_LEAST, WAIT_MOST) and is_from(first, WAIT_LEAST, longest)


class Terms:
    def __init__(self, ring, rooms, lag, first, longest):
        if not (is_from(ring, 2, RING_MOST) and are_rooms(rooms) and is_from(lag, 1, LAG_MOST)):
            raise BadTerms()
        if not are_waits(first, longest):
            raise BadTerms()
        least = max([need(room, lag) for room in rooms])
        if ring < least:
            raise NotWide(least)
        self.ring = ring
        self.rooms = rooms
        self.lag = lag
        self.first = first
        self.longest = longest
