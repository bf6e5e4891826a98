import random
import unittest

from slowroad.reckon import reckoned, things_at_most
from slowroad.roads import fairness
from slowroad.terms import Terms
from slowroad.walk import Walk
from talks import BAD_DEEDS, TERMS, WORSE_DEEDS, some_roads, some_terms, some_wishes


class Things(unittest.TestCase):
    def test_told_ones(self):
        self.assertEqual(things_at_most([]), 0)
        self.assertEqual(things_at_most([(5, 0, "begin", None)]), 4)
        self.assertEqual(things_at_most([(5, 0, "end", None), (5, 0, "read", 60)]), 0)
        for long, many in ((1, 1), (3, 1), (4, 1), (5, 2), (8, 2), (9, 3), (59, 15), (60, 15)):
            self.assertEqual(things_at_most([(0, 1, "put", "a" * long)]), many)
        wishes = [(0, 0, "begin", None), (0, 1, "put", "abcde"), (9, 1, "begin", None), (1, 0, "end", None),
            (0, 1, "put", "a")]
        self.assertEqual(things_at_most(wishes), 11)
        self.assertEqual(things_at_most([(0, 0, "begin", None)] * 60), 240)

    def test_no_walk_makes_more(self):
        draw = random.Random(870)
        for i in range(80):
            terms = some_terms(draw)
            wishes = some_wishes(draw, 60)
            walk = Walk(terms, some_roads(draw, terms.lag), wishes)
            walk.run(300)
            self.assertLessEqual(len(walk.given_in(0)) + len(walk.given_in(1)), things_at_most(wishes))


class Reckoned(unittest.TestCase):
    def test_told_ones(self):
        # T + 1 + (4 * N + W + 1) * (K * (K * D + L) + 2 * L + 4) + 2 * L + 4
        terms = Terms(24, (5, 8), 6, 4, 30)
        self.assertEqual(reckoned(terms, ([], []), []), 0 + 14 * (36 + 16) + 16)
        self.assertEqual(reckoned(terms, ([], []), [(7, 0, "read", 1)]), 8 + 14 * (36 + 16) + 16)
        wishes = [(3, 0, "begin", None), (9, 1, "put", "abcde"), (0, 0, "end", None)]
        self.assertEqual(reckoned(terms, ([], []), wishes), 10 + (24 + 14) * (36 + 16) + 16)
        whole, lost = [(1, 0, 0)], []
        three, two = [lost, whole, lost], [whole, lost]
        self.assertEqual(reckoned(terms, (three, []), wishes), 10 + 38 * (3 * (90 + 6) + 16) + 16)
        self.assertEqual(reckoned(terms, ([], three), wishes), 10 + 38 * (3 * (90 + 6) + 16) + 16)
        self.assertEqual(reckoned(terms, (two, three), wishes), 10 + 38 * (3 * (90 + 6) + 16) + 16)
        self.assertEqual(reckoned(terms, (three, two), wishes), 10 + 38 * (3 * (90 + 6) + 16) + 16)
        other = Terms(63, (16, 1), 32, 2, 7)
        self.assertEqual(reckoned(other, ([], two), wishes), 10 + (24 + 18) * (2 * (14 + 32) + 68) + 68)

    def test_none_where_a_road_has_no_fairness(self):
        for bad in ([[]], [[(1, 0, 1)]], [[], [(2, 5, 9), (3, 1, 1)]]):
            for roads in ((bad, []), ([], bad), (bad, bad), (bad, BAD_DEEDS)):
                self.assertIsNone(reckoned(TERMS, roads, []))

    def test_against_the_words(self):
        draw = random.Random(871)
        for i in range(200):
            terms = some_terms(draw)
            roads, wishes = some_roads(draw, terms.lag), some_wishes(draw)
            before = repr((roads, wishes))
            told = reckoned(terms, roads, wishes)
            self.assertEqual(repr((roads, wishes)), before)
            fair = [fairness(deeds) for deeds in roads]
            if None in fair:
                self.assertIsNone(told)
                continue
            K, D, L, N, W = max(fair), terms.longest, terms.lag, things_at_most(wishes), terms.rooms[0] + terms.rooms[1]
            T = max([wish[0] for wish in wishes]) if wishes else -1
            self.assertEqual(told, T + 1 + (4 * N + W + 1) * (K * (K * D + L) + 2 * L + 4) + 2 * L + 4)

    def test_walks_are_quiet_within_it_with_all_given_out(self):
        draw = random.Random(872)
        done = 0
        for i in range(500):
            terms = some_terms(draw)
            roads, wishes = some_roads(draw, terms.lag), some_wishes(draw)
            most = reckoned(terms, roads, wishes)
            if most is not None and most <= 20000:
                done += 1
                walk = Walk(terms, roads, wishes)
                self.assertLessEqual(walk.run(most), most)
                self.assertIs(walk.quiet(), True)
                self.assertEqual(walk.given_out(0), walk.given_in(1))
                self.assertEqual(walk.given_out(1), walk.given_in(0))
        self.assertTrue(done > 100)

    def test_on_the_worst_roads_that_are_fair(self):
        # Whole just once in so many, as late as the lag lets it.
        for many in (2, 5, 9):
            for at in range(many):
                deeds = [[(1, 3, 7)] for i in range(many)]
                deeds[at] = [(2, 0, 9), (6, 0, 0)]
                for roads in ((deeds, deeds), (deeds, []), ([], deeds), (deeds, WORSE_DEEDS)):
                    wishes = [(0, 0, "begin", None), (0, 0, "put", "hello you there"), (2, 1, "begin", None)]
                    terms = Terms(24, (5, 8), 6, 2, 6)
                    most = reckoned(terms, roads, wishes)
                    self.assertLessEqual(most, 40000)
                    walk = Walk(terms, roads, wishes)
                    walk.run(most)
                    self.assertIs(walk.quiet(), True)
                    self.assertEqual((walk.given_out(0), walk.given_out(1)), (walk.given_in(1), walk.given_in(0)))


if __name__ == "__main__":
    unittest.main()
