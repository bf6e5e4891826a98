"""A hand: a sender, a taker and a state, which talk to another hand in frames."""

from slowroad.errors import BadText, NoFrame, NoPiece, NotNow, Spoilt
from slowroad.pieces import SIGNS, SIGNS_MOST, read, written
from slowroad.sender import Sender
from slowroad.states import Shut
from slowroad.taker import Taker

TEXT_MOST = 60
BEGIN = ("begin", "")
END = ("end", "")


def is_text(text):
    return isinstance(text, str) and 1 <= len(text) <= TEXT_MOST and all([sign in SIGNS for sign in text])


def read_or_none(frame):
    try:
        return read(frame)
    except (NoFrame, Spoilt, NoPiece):
        return None


class Hand:
    def __init__(self, side, terms):
        self.side = side
        self.ring = terms.ring
        self.taker = Taker(terms.ring, terms.rooms[side])
        self.sender = Sender(terms.ring, terms.first, terms.longest, terms.rooms[1 - side])
        self.state = Shut()
        self.answer_due = False
        self.end_places = []

    def name(self):
        return self.state.name()

    def begin(self):
        self.state = self.state.wish_begin()
        self.sender.put(BEGIN)

    def end(self):
        self.state = self.state.wish_end()
        self.end_places.append(self.sender.many())
        self.sender.put(END)

    def put(self, text):
        if not is_text(text):
            raise BadText()
        if not self.state.may_put():
            raise NotNow(self.name(), "put")
        for at in range(0, len(text), SIGNS_MOST):
            self.sender.put(("signs", text[at : at + SIGNS_MOST]))

    def read(self, many):
        had_room = self.taker.room_left() > 0
        things = self.taker.read(many)
        # The other hand believes that there is no room, and may wait for a word that there is some again.
        if not had_room and self.taker.room_left() > 0:
            self.answer_due = True
        return things

    def come(self, frame, turn):
        piece = read_or_none(frame)
        if piece is None or piece[1] >= self.ring or piece[2] >= self.ring:
            return ("spoilt", None)
        self.hear(piece, turn)
        if piece[0] == "bare":
            return ("bare", None)
        self.answer_due = True
        if piece[0] == "ask":
            return ("ask", None)
        return self.take_in(piece[1], (piece[0], piece[5]))

    def hear(self, piece, turn):
        low = self.sender.base
        self.sender.heard(piece[2], piece[3], piece[4], turn)
        for place in self.end_places:
            if low <= place < self.sender.base:
                self.state = self.state.answered()

    def take_in(self, number, thing):
        taken = self.taker.take(number, thing)
        for in_order in taken[1]:
            self.stand_to(in_order[0])
        return ("old", None) if taken[0] is None else ("filed", taken[0])

    def stand_to(self, kind):
        if kind == "begin":
            if self.name() == "shut":
                self.sender.put(BEGIN)
            self.state = self.state.begun()
        if kind == "end":
            self.state = self.state.ended()

    def send(self, turn):
        what = self.sender.go(turn)
        if what is None and not self.answer_due:
            return None
        word = "bare" if what is None else what[0]
        place = None if what is None else what[1]
        self.answer_due = False
        return (written(self.piece_of(word, place)), word, place)

    def piece_of(self, word, place):
        answer = self.taker.answer()
        if place is None:
            return (word, 0, answer[0], answer[1], answer[2], "")
        thing = self.sender.thing(place)
        return (thing[0], place % self.ring, answer[0], answer[1], answer[2], thing[1])

    def quiet(self):
        return self.sender.base == self.sender.top == self.sender.many() and not self.answer_due
