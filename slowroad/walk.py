"""A walk: a talk of two hands over two roads, turn by turn, told in rows."""

from slowroad.bounds import is_from
from slowroad.errors import BadWish, NotNow
from slowroad.hand import Hand, is_text
from slowroad.roads import Road, copied

SIDES = (0, 1)
WISHES_MOST = 60
WISH_TURN_MOST = 400
READ_MOST = 60


def is_wish(wish):
    return (
        isinstance(wish, tuple)
        and len(wish) == 4
        and is_from(wish[0], 0, WISH_TURN_MOST)
        and is_from(wish[1], 0, 1)
        and is_value(wish[2], wish[3])
    )


def is_value(word, value):
    if word == "put":
        return is_text(value)
    if word == "read":
        return is_from(value, 1, READ_MOST)
    return word in ("begin", "end") and value is None


def check_wishes(wishes):
    for at, wish in enumerate(wishes):
        if at >= WISHES_MOST or not is_wish(wish):
            raise BadWish(at)


def last_turn_of(wishes):
    return max([wish[0] for wish in wishes], default=-1)


def own_row(row):
    # The things that were read stand in a list, of which each asker has one of its own.
    return (row[0], row[1], row[2], list(row[3])) if row[0] == "read" else row


class Walk:
    def __init__(self, terms, roads, wishes):
        self.roads = (Road(roads[0], terms.lag), Road(roads[1], terms.lag))
        check_wishes(wishes)
        self.terms = terms
        self.deeds = (copied(roads[0]), copied(roads[1]))
        self.wishes = list(wishes)
        self.last_wish = last_turn_of(wishes)
        self.hands = (Hand(0, terms), Hand(1, terms))
        self.outs = ([], [])
        self.told = []
        self.turn = 0

    def step(self):
        for side in SIDES:
            self.let_come(side)
        for wish in self.wishes:
            if wish[0] == self.turn:
                self.do_wish(wish[1], wish[2], wish[3])
        if self.turn > self.last_wish:
            for side in SIDES:
                self.wind_up(side)
        for side in SIDES:
            self.let_send(side)
        for side in SIDES:
            self.tell_stand(side)
        self.turn += 1

    def let_come(self, side):
        for sending, frame in self.roads[1 - side].come(self.turn):
            what = self.hands[side].come(frame, self.turn)
            self.told.append(("came", self.turn, side, sending, frame, what[0], what[1]))

    def do_wish(self, side, word, value):
        went = self.went(side, word, value)
        self.told.append(("wish", self.turn, side, word, value, went))
        if word == "read":
            self.let_read(side, value)

    def went(self, side, word, value):
        hand = self.hands[side]
        try:
            if word == "begin":
                hand.begin()
            if word == "end":
                hand.end()
            if word == "put":
                hand.put(value)
        except NotNow as refusal:
            return refusal.state
        return "ok"

    def let_read(self, side, many):
        things = self.hands[side].read(many)
        if len(things) > 0:
            self.outs[side].extend(things)
            self.told.append(("read", self.turn, side, things))

    def wind_up(self, side):
        if self.went(side, "end", None) == "ok":
            self.told.append(("wish", self.turn, side, "end", None, "ok"))
        if self.unread(side) > 0:
            self.let_read(side, self.unread(side))

    def unread(self, side):
        taker = self.hands[side].taker
        return taker.got - taker.out

    def let_send(self, side):
        what = self.hands[side].send(self.turn)
        if what is not None:
            sending = self.roads[side].send(self.turn, what[0])
            self.told.append(("sent", self.turn, side, sending, what[0], what[1], what[2]))

    def tell_stand(self, side):
        hand = self.hands[side]
        sender = hand.sender
        stand = (sender.base, sender.top, sender.edge, hand.taker.got, hand.taker.out)
        waits = (sender.meter.window, sender.ways.wait)
        self.told.append(("end", self.turn, side, hand.name()) + stand + waits)

    def quiet(self):
        return self.turn > self.last_wish and all([self.side_is_quiet(side) for side in SIDES])

    def side_is_quiet(self, side):
        hand = self.hands[side]
        return (
            hand.name() == "shut" and hand.quiet() and self.unread(side) == 0 and self.roads[side].under_way() == 0
        )

    def run(self, most):
        while self.turn < most and not self.quiet():
            self.step()
        return self.turn

    def rows(self):
        return [own_row(row) for row in self.told]

    def given_in(self, side):
        sender = self.hands[side].sender
        return [sender.thing(place) for place in range(sender.many())]

    def given_out(self, side):
        return list(self.outs[side])
