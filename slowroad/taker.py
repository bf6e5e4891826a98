"""The taker files things at their places, though they bear numbers in a ring alone, and gives them out in order."""

from slowroad.rings import ahead


class Taker:
    def __init__(self, ring, room):
        self.ring = ring
        self.room = room
        self.got = 0
        self.out = 0
        # All things that are filed and weren't read yet, by their places.
        self.kept = {}

    def room_left(self):
        return self.out + self.room - self.got

    def take(self, number, thing):
        steps = ahead(self.ring, self.got, number)
        if steps >= self.room_left():
            return (None, [])
        place = self.got + steps
        if place not in self.kept:
            self.kept[place] = thing
        return (place, self.stand_in_order())

    def stand_in_order(self):
        things = []
        while self.got in self.kept:
            things.append(self.kept[self.got])
            self.got += 1
        return things

    def answer(self):
        # Nothing is kept beyond the room, so what is held lies within what is left of it.
        held = [step for step in range(1, self.room_left()) if self.got + step in self.kept]
        return (self.got % self.ring, self.room_left(), tuple(held))

    def read(self, most):
        things = []
        for place in range(self.out, min(self.out + most, self.got)):
            things.append(self.kept.pop(place))
        self.out += len(things)
        return things
