import random
import unittest

from slowroad.pair import Pair
from slowroad.seen import schedule_of
from slowroad.walk import Walk
from talks import BAD_DEEDS, TERMS, WORSE_DEEDS, some_roads, some_terms, some_wishes

PLAIN = ([], [])


class Told(unittest.TestCase):
    def test_a_small_walk(self):
        walk = Walk(TERMS, ([[(1, 0, 0), (2, 0, 0)], [(1, 0, 9)], [(4, 0, 0)]], []),
            [(0, 0, "begin", None), (9, 0, "read", 1)])
        for i in range(10):
            walk.step()
        brief = [(row[0], row[1], row[2], row[3], row[5], row[6]) for row in walk.rows() if row[0] in ("sent", "came")]
        self.assertEqual(brief, [
            ("sent", 0, 0, 0, "new", 0),
            ("came", 1, 1, 0, "filed", 0),
            ("sent", 1, 1, 0, "new", 0),
            ("came", 2, 0, 0, "filed", 0),
            ("came", 2, 1, 0, "old", None),
            ("sent", 2, 0, 1, "bare", None),
            ("sent", 2, 1, 1, "bare", None),
            ("came", 3, 0, 1, "bare", None),
            ("came", 3, 1, 1, "spoilt", None),
            ("sent", 5, 1, 2, "again", 0),
            ("came", 6, 0, 2, "old", None),
            ("sent", 6, 0, 2, "bare", None),
        ])
        nothing = ([], [], None)
        self.assertEqual(schedule_of(walk.rows(), 0), [
            ([], [], 0), ([0], [], None), ([0], [1], None), ([], [2], None), nothing, nothing, ([], [5], None),
            nothing, nothing, nothing,
        ])
        self.assertEqual(schedule_of(walk.rows(), 1), [
            nothing, ([], [0], 0), ([1], [0], None), nothing, nothing, ([], [], 0), ([5], [], None),
            nothing, nothing, nothing,
        ])

    def test_no_turns(self):
        self.assertEqual(schedule_of(Walk(TERMS, PLAIN, []).rows(), 0), [])
        self.assertEqual(schedule_of([], 1), [])

    def test_turns_in_which_nothing_goes(self):
        walk = Walk(TERMS, PLAIN, [])
        walk.step()
        walk.step()
        self.assertEqual(schedule_of(walk.rows(), 0), [([], [], None), ([], [], None)])

    def test_rows_handed_in_stay_and_lists_are_the_askers_own(self):
        walk = Walk(TERMS, (BAD_DEEDS, []), [(0, 0, "begin", None), (0, 0, "put", "hello")])
        walk.run(100)
        rows = walk.rows()
        told = schedule_of(rows, 0)
        self.assertEqual(rows, walk.rows())
        right = repr(told)
        for comings, answers, item in told:
            comings.append(1)
            answers.append(2)
        self.assertEqual(repr(schedule_of(rows, 0)), right)
        told = schedule_of(rows, 0)
        self.assertEqual(len({id(one) for turn in told for one in turn[:2]}), 2 * len(told))


class Played(unittest.TestCase):
    def plays(self, terms, walk):
        rows = walk.rows()
        filed = 0
        for side in (0, 1):
            schedule = schedule_of(rows, side)
            self.assertIs(type(schedule), list)
            self.assertEqual(len(schedule), walk.turn)
            sent = {(row[1], row[2]): row[6] for row in rows if row[0] == "sent" and row[5] in ("new", "again")}
            came = [[] for turn in schedule]
            heard = [0 for turn in schedule]
            for row in rows:
                if row[0] == "came" and row[2] == 1 - side and row[5] in ("filed", "old"):
                    came[row[1]].append(row[6])
                if row[0] == "came" and row[2] == side and row[5] != "spoilt":
                    heard[row[1]] += 1
            pair = Pair(terms.ring, terms.rooms[1 - side], terms.lag)
            ends = [row for row in rows if row[0] == "end"]
            for turn, (comings, answers, item) in enumerate(schedule):
                self.assertEqual(item, sent.get((turn, side)))
                self.assertEqual((len(comings), len(answers)), (len(came[turn]), heard[turn]))
                told = pair.play(comings, answers, item)
                for place, right in zip(told, came[turn]):
                    if right is not None:
                        filed += 1
                        self.assertEqual(place, right)
                stand = ends[2 * turn + side]
                self.assertEqual((pair.base, pair.top), stand[4:6])
                self.assertEqual(pair.got, ends[2 * turn + 1 - side][7])
        return filed

    def test_by_a_pair_on_roads_by_chance(self):
        draw = random.Random(860)
        filed = 0
        for i in range(150):
            terms = some_terms(draw)
            walk = Walk(terms, some_roads(draw, terms.lag), some_wishes(draw))
            walk.run(300)
            filed += self.plays(terms, walk)
        self.assertTrue(filed > 1500)

    def test_at_each_turn(self):
        walk = Walk(TERMS, (BAD_DEEDS, WORSE_DEEDS), [(0, 0, "begin", None), (0, 0, "put", "hello " * 9),
            (3, 1, "begin", None)])
        for i in range(60):
            self.plays(TERMS, walk)
            walk.step()


if __name__ == "__main__":
    unittest.main()
