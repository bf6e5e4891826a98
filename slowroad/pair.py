"""The bare pair: a sender and a taker alone, played turn by turn by whoever says what comes and what is sent."""

from slowroad.bounds import is_from
from slowroad.errors import BadPair, BadTurn
from slowroad.rings import ahead

ROOM_MOST = 60
RING_MOST = 1000000
LAG_MOST = 60


def check_pair(ring, room, lag):
    if not is_from(room, 1, ROOM_MOST) or not is_from(ring, room + 1, RING_MOST) or not is_from(lag, 1, LAG_MOST):
        raise BadPair()


class Pair:
    def __init__(self, ring, room, lag):
        check_pair(ring, room, lag)
        self.ring = ring
        self.room = room
        self.lag = lag
        self.base = 0
        self.top = 0
        self.got = 0
        self.turn = 0
        self.sent_places = {}
        self.told_answers = []
        self.filed_places = {}

    def play(self, comings, answers, item):
        if not all([self.may_come(coming) for coming in comings]):
            raise BadTurn(self.turn)
        if not all([self.is_earlier(answer) for answer in answers]):
            raise BadTurn(self.turn)
        base = self.base_behind(answers)
        if item is not None and not base <= item <= min(base + self.room - 1, self.top):
            raise BadTurn(self.turn)
        places = []
        for coming in comings:
            places.append(self.file_coming(coming))
        self.base = base
        if item is not None:
            self.note_sending(item)
        self.told_answers.append(self.got % self.ring)
        self.turn += 1
        return places

    def is_earlier(self, turn):
        return max(0, self.turn - self.lag) <= turn < self.turn

    def may_come(self, turn):
        return self.is_earlier(turn) and turn in self.sent_places

    def base_behind(self, answers):
        base = self.base
        for answer in answers:
            steps = ahead(self.ring, base, self.told_answers[answer])
            if steps <= self.top - base:
                base += steps
        return base

    def file_coming(self, turn):
        # All that a coming bears is its number in the ring, though the pair knows the place.
        number = self.sent_places[turn] % self.ring
        steps = ahead(self.ring, self.got, number)
        if steps >= self.room:
            return None
        place = self.got + steps
        self.filed_places[place] = True
        while self.got in self.filed_places:
            self.got += 1
        return place

    def note_sending(self, place):
        self.sent_places[self.turn] = place
        if place == self.top:
            self.top += 1
