import unittest

from slowroad.errors import BadPair
from slowroad.fooling import fooling, need
from slowroad.pair import Pair


class Need(unittest.TestCase):
    def test_told_ones(self):
        told = (
            (2, 1, 4), (2, 2, 5), (3, 1, 6), (60, 60, 179), (60, 1, 120), (2, 60, 63), (16, 32, 63),
            (1, 1, 2), (1, 2, 3), (1, 3, 3), (1, 4, 4), (1, 59, 31), (1, 60, 32),
        )
        for room, lag, least in told:
            self.assertEqual(need(room, lag), least, (room, lag))

    def test_all(self):
        for lag in range(1, 61):
            self.assertEqual(need(1, lag), 2 + (lag - lag % 2) // 2)
            for room in range(2, 61):
                self.assertEqual(need(room, lag), room + room + lag - 1)


class Fooling(unittest.TestCase):
    def fools(self, ring, room, lag):
        turns = fooling(ring, room, lag)
        self.assertIs(type(turns), list)
        self.assertTrue(1 <= len(turns) <= 200)
        pair = Pair(ring, room, lag)
        items = []
        for turn in turns:
            self.assertIs(type(turn), tuple)
            comings, answers, item = turn
            self.assertIs(type(comings), list)
            self.assertIs(type(answers), list)
            self.assertTrue(len(comings) <= 60 and len(answers) <= 60)
            told = pair.play(comings, answers, item)
            items.append(item)
        own = [items[coming] for coming in turns[-1][0]]
        self.assertTrue(any(place not in (None, right) for place, right in zip(told, own)), (ring, room, lag))

    def test_all_rings_of_small_rooms_and_lags(self):
        for room in range(1, 8):
            for lag in range(1, 13):
                for ring in range(room + 1, need(room, lag)):
                    self.fools(ring, room, lag)

    def test_all_rings_of_the_greatest(self):
        for room, lag in ((1, 60), (1, 59), (2, 60), (60, 1), (60, 2), (60, 60), (59, 60)):
            for ring in range(room + 1, need(room, lag)):
                self.fools(ring, room, lag)

    def test_least_and_greatest_ring_of_many(self):
        for room in range(1, 61, 3):
            for lag in range(1, 61, 4):
                for ring in (room + 1, 2 * room - 1, 2 * room, need(room, lag) - 1):
                    if room < ring < need(room, lag):
                        self.fools(ring, room, lag)

    def test_ring_of_the_need_or_more(self):
        for room in range(1, 61):
            for lag in range(1, 61):
                for ring in (need(room, lag), need(room, lag) + 1, 1000000):
                    self.assertEqual(fooling(ring, room, lag), [])

    def test_refused(self):
        wrong = (
            (5, 0, 1), (5, -1, 1), (100, 61, 1), (1000000, 61, 1),
            (1, 1, 1), (60, 60, 1), (2, 3, 5), (0, 1, 1), (1000001, 1, 1), (1000001, 60, 60),
            (5, 2, 0), (5, 2, -1), (5, 2, 61), (1000000, 2, 61),
        )
        for ring, room, lag in wrong:
            with self.assertRaises(BadPair):
                fooling(ring, room, lag)

    def test_lists_are_the_askers_own(self):
        for ring, room, lag in ((3, 2, 1), (5, 2, 3), (3, 1, 5)):
            turns = fooling(ring, room, lag)
            for comings, answers, item in turns:
                comings.append(99)
                answers.append(99)
            turns.append(None)
            self.fools(ring, room, lag)


if __name__ == "__main__":
    unittest.main()
