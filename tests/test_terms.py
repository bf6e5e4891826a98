import unittest

from slowroad.errors import BadTerms, NotWide
from slowroad.terms import Terms


class Made(unittest.TestCase):
    def test_fields_as_handed_in(self):
        for given in ((64, (16, 3), 32, 5, 40), (2, (1, 1), 1, 2, 2), (63, (16, 16), 32, 64, 64),
                (17, (1, 8), 2, 2, 64)):
            terms = Terms(*given)
            self.assertEqual((terms.ring, terms.rooms, terms.lag, terms.first, terms.longest), given)
            self.assertIs(type(terms.rooms), tuple)


class Refused(unittest.TestCase):
    def bad(self, ring=64, rooms=(4, 4), lag=4, first=5, longest=40):
        with self.assertRaises(BadTerms):
            Terms(ring, rooms, lag, first, longest)

    def good(self, ring=64, rooms=(4, 4), lag=4, first=5, longest=40):
        Terms(ring, rooms, lag, first, longest)

    def test_ring(self):
        for ring in (1, 0, -5, 65, 1000):
            self.bad(ring=ring)
        self.good(ring=64)
        self.good(ring=2, rooms=(1, 1), lag=1)

    def test_rooms(self):
        for room in (0, -1, 17, 100):
            self.bad(rooms=(room, 4))
            self.bad(rooms=(4, room))
            self.bad(rooms=(room, room))
        for room in (1, 16):
            self.good(rooms=(room, 4))
            self.good(rooms=(4, room))

    def test_what_is_no_tuple_of_two_whole_numbers(self):
        for rooms in ((), (4,), (4, 4, 4), [4, 4], 4, None, (4, True), ("4", 4)):
            self.bad(rooms=rooms)

    def test_lag(self):
        for lag in (0, -1, 33, 60):
            self.bad(lag=lag)
        self.good(lag=1)
        self.good(lag=32)

    def test_waits(self):
        for first, longest in ((1, 40), (0, 40), (-2, 40), (41, 40), (5, 4), (5, 65), (65, 65), (64, 65), (1, 1),
                (2, 1)):
            self.bad(first=first, longest=longest)
        for first, longest in ((2, 2), (2, 64), (64, 64), (40, 40)):
            self.good(first=first, longest=longest)

    def test_bad_goes_ahead_of_not_wide(self):
        self.bad(ring=1, rooms=(16, 16), lag=32)
        self.bad(ring=2, rooms=(16, 17), lag=32)
        self.bad(ring=2, rooms=(16, 16), lag=33)
        self.bad(ring=2, rooms=(16, 16), lag=32, first=1)
        self.bad(ring=2, rooms=(16, 16), lag=32, longest=65)

    def test_not_wide_bears_the_greater_need(self):
        told = (
            (7, (3, 2), 3, 8), (7, (2, 3), 3, 8), (2, (16, 16), 32, 63), (62, (16, 16), 32, 63), (62, (1, 16), 32, 63),
            (2, (1, 1), 2, 3), (17, (1, 1), 32, 18), (5, (1, 2), 3, 6), (4, (2, 1), 3, 6), (3, (2, 2), 1, 4),
        )
        for ring, rooms, lag, least in told:
            with self.assertRaises(NotWide) as taken:
                Terms(ring, rooms, lag, 5, 40)
            self.assertEqual(taken.exception.least, least)
            Terms(least, rooms, lag, 5, 40)
            with self.assertRaises(NotWide):
                Terms(least - 1, rooms, lag, 5, 40)

    def test_all_rooms_and_lags(self):
        for one in range(1, 17):
            for other in range(1, 17):
                for lag in range(1, 33):
                    least = max(2 + lag // 2 if room == 1 else 2 * room + lag - 1 for room in (one, other))
                    Terms(least, (one, other), lag, 2, 2)
                    with self.assertRaises(BadTerms if least == 2 else NotWide):
                        Terms(least - 1, (one, other), lag, 2, 2)


if __name__ == "__main__":
    unittest.main()
