import random
import unittest

from slowroad.taker import Taker


def thing(place):
    return ("signs", str(place))


def things(low, high):
    return [thing(place) for place in range(low, high)]


class Taken(unittest.TestCase):
    def test_at_first(self):
        taker = Taker(16, 4)
        self.assertEqual((taker.got, taker.out), (0, 0))
        self.assertEqual(taker.answer(), (0, 4, ()))
        self.assertEqual(taker.read(9), [])

    def test_in_order(self):
        taker = Taker(16, 4)
        for place in range(4):
            self.assertEqual(taker.take(place, thing(place)), (place, [thing(place)]))
            self.assertEqual((taker.got, taker.out), (place + 1, 0))
            self.assertEqual(taker.answer(), (place + 1, 3 - place, ()))

    def test_ahead_of_a_gap(self):
        taker = Taker(32, 6)
        self.assertEqual(taker.take(2, thing(2)), (2, []))
        self.assertEqual(taker.take(5, thing(5)), (5, []))
        self.assertEqual(taker.answer(), (0, 6, (2, 5)))
        self.assertEqual(taker.take(1, thing(1)), (1, []))
        self.assertEqual((taker.got, taker.out), (0, 0))
        self.assertEqual(taker.answer(), (0, 6, (1, 2, 5)))
        self.assertEqual(taker.take(0, thing(0)), (0, things(0, 3)))
        self.assertEqual(taker.got, 3)
        self.assertEqual(taker.answer(), (3, 3, (2,)))
        self.assertEqual(taker.take(3, thing(3)), (3, [thing(3)]))
        self.assertEqual(taker.answer(), (4, 2, (1,)))
        self.assertEqual(taker.take(4, thing(4)), (4, things(4, 6)))
        self.assertEqual(taker.answer(), (6, 0, ()))

    def test_taken_twice_the_first_one_stays(self):
        taker = Taker(32, 6)
        taker.take(1, thing(1))
        self.assertEqual(taker.take(1, ("end", "")), (1, []))
        self.assertEqual(taker.take(0, thing(0)), (0, things(0, 2)))
        self.assertEqual(taker.take(0, thing(0)), (None, []))
        self.assertEqual(taker.take(1, thing(1)), (None, []))
        self.assertEqual(taker.read(5), things(0, 2))

    def test_beyond_the_room(self):
        taker = Taker(32, 3)
        before = taker.answer()
        for number in (3, 4, 16, 31):
            self.assertEqual(taker.take(number, thing(number)), (None, []))
            self.assertEqual((taker.answer(), taker.got, taker.out), (before, 0, 0))
        self.assertEqual(taker.take(2, thing(2)), (2, []))

    def test_the_room_that_is_left_counts(self):
        taker = Taker(32, 3)
        taker.take(0, thing(0))
        taker.take(1, thing(1))
        self.assertEqual(taker.take(3, thing(3)), (None, []))
        self.assertEqual(taker.take(2, thing(2)), (2, [thing(2)]))
        self.assertEqual(taker.take(3, thing(3)), (None, []))
        self.assertEqual(taker.answer(), (3, 0, ()))
        self.assertEqual(taker.read(1), [thing(0)])
        self.assertEqual(taker.take(4, thing(4)), (None, []))
        self.assertEqual(taker.take(3, thing(3)), (3, [thing(3)]))

    def test_numbers_go_round(self):
        taker = Taker(5, 2)
        for place in range(23):
            self.assertEqual(taker.take(place % 5, thing(place)), (place, [thing(place)]))
            self.assertEqual(taker.answer(), ((place + 1) % 5, 1, ()))
            self.assertEqual(taker.read(1), [thing(place)])
        self.assertEqual((taker.got, taker.out), (23, 23))

    def test_room_of_one(self):
        taker = Taker(3, 1)
        self.assertEqual(taker.take(1, thing(1)), (None, []))
        self.assertEqual(taker.take(0, thing(0)), (0, [thing(0)]))
        self.assertEqual(taker.answer(), (1, 0, ()))
        self.assertEqual(taker.take(1, thing(1)), (None, []))

    def test_room_of_sixteen_holds_fifteen(self):
        taker = Taker(64, 16)
        for place in range(15, 0, -1):
            self.assertEqual(taker.take(place, thing(place)), (place, []))
        self.assertEqual(taker.answer(), (0, 16, tuple(range(1, 16))))
        self.assertEqual(taker.take(0, thing(0)), (0, things(0, 16)))
        self.assertEqual(taker.answer(), (16, 0, ()))

    def test_things_are_handed_on_as_they_are(self):
        taker = Taker(8, 3)
        for place, one in enumerate((("begin", ""), ("end", ""), ("what else", "than a thing"))):
            self.assertEqual(taker.take(place, one), (place, [one]))
        self.assertEqual(taker.read(9), [("begin", ""), ("end", ""), ("what else", "than a thing")])


class Read(unittest.TestCase):
    def test_some_all_and_none(self):
        taker = Taker(32, 8)
        for place in (0, 1, 2, 3, 4, 6):
            taker.take(place, thing(place))
        self.assertEqual(taker.read(0), [])
        self.assertEqual((taker.got, taker.out), (5, 0))
        self.assertEqual(taker.read(2), things(0, 2))
        self.assertEqual((taker.got, taker.out), (5, 2))
        self.assertEqual(taker.answer(), (5, 5, (1,)))
        self.assertEqual(taker.read(1000), things(2, 5))
        self.assertEqual((taker.got, taker.out), (5, 5))
        self.assertEqual(taker.answer(), (5, 8, (1,)))
        self.assertEqual(taker.read(1000), [])
        self.assertEqual(taker.take(5, thing(5)), (5, things(5, 7)))
        self.assertEqual(taker.read(2), things(5, 7))

    def test_just_as_many_as_stand_in_order(self):
        for most, many in ((2, 2), (3, 3), (4, 3)):
            taker = Taker(32, 8)
            for place in range(3):
                taker.take(place, thing(place))
            self.assertEqual(taker.read(most), things(0, many))
            self.assertEqual(taker.out, many)

    def test_what_is_told_is_the_askers_own(self):
        taker = Taker(32, 8)
        told = taker.take(0, thing(0))
        told[1].append(thing(9))
        none = taker.take(20, thing(20))
        none[1].append(thing(9))
        self.assertEqual(taker.take(21, thing(21)), (None, []))
        taker.take(1, thing(1))
        read = taker.read(9)
        self.assertEqual(read, things(0, 2))
        read.append(thing(9))
        self.assertEqual(taker.read(9), [])
        self.assertEqual(told, (0, things(0, 1) + [thing(9)]))

    def test_against_a_plain_list(self):
        draw = random.Random(63)
        for i in range(200):
            ring, room = draw.randint(2, 40), draw.randint(1, 16)
            taker = Taker(ring, room)
            filed, out, got = {}, 0, 0
            for step in range(80):
                if draw.random() < 0.3:
                    most = draw.choice((0, 1, 2, 5, 1000))
                    right = [filed[place] for place in range(out, got)][:most]
                    out += len(right)
                    self.assertEqual(taker.read(most), right)
                else:
                    number, one = draw.randrange(ring), ("signs", str(step))
                    near = [p for p in range(got, out + room) if p % ring == number][:1]
                    stood = []
                    for place in near:
                        filed.setdefault(place, one)
                    while got in filed:
                        stood.append(filed[got])
                        got += 1
                    self.assertEqual(taker.take(number, one), (near[0] if near else None, stood))
                held = tuple(p - got for p in sorted(filed) if p > got)
                self.assertEqual(taker.answer(), (got % ring, out + room - got, held))
                self.assertEqual((taker.got, taker.out), (got, out))


if __name__ == "__main__":
    unittest.main()
