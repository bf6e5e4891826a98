"""The sender keeps what isn't answered, and says in each turn what goes: a thing, new or again, an ask or nothing."""

from slowroad.meter import Meter
from slowroad.rings import ahead
from slowroad.ways import Ways

KNOWN_TO_HURRY = 2


class Sender:
    def __init__(self, ring, first, longest, most):
        self.ring = ring
        self.ways = Ways(first, longest)
        self.meter = Meter(most)
        self.things = []
        self.base = 0
        self.top = 0
        self.edge = 1
        self.clock = None
        self.base_hurried = False
        self.known_places = {}
        self.first_turns = {}
        self.gone_again = {}

    def put(self, thing):
        self.things.append(thing)

    def many(self):
        return len(self.things)

    def thing(self, place):
        return self.things[place]

    def heard(self, number, room, held, turn):
        steps = ahead(self.ring, self.base, number)
        if steps > self.top - self.base:
            return []
        fresh = self.grow_base(steps) + self.note_held(held)
        self.edge = max(self.edge, self.base + room)
        for place in fresh:
            if place not in self.gone_again:
                self.ways.measured(turn - self.first_turns[place])
        self.meter.known(len(fresh))
        if steps > 0:
            self.clock = turn + self.ways.wait if self.base < self.top else None
            self.base_hurried = False
        return fresh

    def grow_base(self, steps):
        low = self.base
        self.base += steps
        return self.newly_known(list(range(low, self.base)))

    def note_held(self, held):
        return self.newly_known([self.base + step for step in held if self.base + step < self.top])

    def newly_known(self, places):
        fresh = [place for place in places if place not in self.known_places]
        for place in fresh:
            self.known_places[place] = True
        return fresh

    def known_above_base(self):
        return len([place for place in range(self.base + 1, self.top) if place in self.known_places])

    def under_way(self):
        return self.top - self.base - self.known_above_base()

    def thing_waits(self):
        return self.top < self.many()

    def clock_is_out(self, turn):
        return self.clock is not None and turn >= self.clock

    def hurry_is_due(self):
        return self.base < self.top and not self.base_hurried and self.known_above_base() >= KNOWN_TO_HURRY

    def new_may_go(self):
        return self.thing_waits() and self.top < self.edge and self.under_way() < self.meter.window

    def go(self, turn):
        if self.base < self.top and self.clock_is_out(turn):
            self.ways.ran_out()
            self.meter.ran_out()
            return self.go_again(turn)
        if self.hurry_is_due():
            self.meter.hurried()
            return self.go_again(turn)
        if self.new_may_go():
            return self.go_new(turn)
        if self.thing_waits() and self.base == self.top:
            return self.ask_for_room(turn)
        return None

    def set_clock(self, turn):
        self.clock = turn + self.ways.wait

    def go_again(self, turn):
        self.set_clock(turn)
        self.base_hurried = True
        self.gone_again[self.base] = True
        return ("again", self.base)

    def go_new(self, turn):
        place = self.top
        if self.base == self.top:
            self.set_clock(turn)
        self.first_turns[place] = turn
        self.top += 1
        return ("new", place)

    def ask_for_room(self, turn):
        if self.clock is None:
            self.set_clock(turn)
            return None
        if not self.clock_is_out(turn):
            return None
        self.ways.ran_out()
        self.set_clock(turn)
        return ("ask", None)
