"""What is promised over the whole program."""

import random
import unittest

from slowroad.desk import Desk
from slowroad.errors import BadTurn
from slowroad.fooling import fooling, need
from slowroad.hand import Hand
from slowroad.pair import Pair
from slowroad.pieces import written
from slowroad.reckon import reckoned, things_at_most
from slowroad.roads import Road, fairness, rule
from slowroad.seen import schedule_of
from slowroad.texts import kept, walk_of
from slowroad.walk import Walk
from talks import BAD_DEEDS, TERMS, WORSE_DEEDS, some_roads, some_terms, some_wishes


def scribble(told):
    """Does to all lists within what was told whatever an asker might do."""
    if isinstance(told, (list, tuple)):
        for part in told:
            scribble(part)
    if isinstance(told, list):
        told.append("scribbled")
        told.reverse()


class HandedInAndTold(unittest.TestCase):
    def test_nothing_that_is_handed_in_is_changed(self):
        draw = random.Random(2)
        for i in range(30):
            terms = some_terms(draw)
            roads, wishes = some_roads(draw, terms.lag), some_wishes(draw)
            before = repr((roads, wishes))
            walk = Walk(terms, roads, wishes)
            walk.run(60)
            fairness(roads[0])
            rule(roads[1])(3)
            Road(roads[0], terms.lag).send(0, 5)
            reckoned(terms, roads, wishes)
            things_at_most(wishes)
            kept(walk)
            self.assertEqual(repr((roads, wishes)), before)
            rows = walk.rows()
            schedule_of(rows, 0)
            self.assertEqual(rows, walk.rows())
            self.assertEqual(
                (terms.ring, terms.rooms, terms.lag, terms.first, terms.longest),
                tuple(int(word) for word in kept(walk).split("\n")[0].split(" ")[1:2])
                + (tuple(int(word) for word in kept(walk).split("\n")[0].split(" ")[2:4]),)
                + tuple(int(word) for word in kept(walk).split("\n")[0].split(" ")[4:]),
            )

    def test_what_is_told_is_the_askers_own(self):
        draw = random.Random(3)
        for i in range(30):
            terms = some_terms(draw)
            roads, wishes = some_roads(draw, terms.lag), some_wishes(draw)
            one, other = Walk(terms, roads, wishes), Walk(terms, roads, wishes)
            for turn in range(80):
                one.step()
                other.step()
                if turn % 8 == 0:
                    for told in (one.rows(), one.given_in(0), one.given_in(1), one.given_out(0), one.given_out(1)):
                        scribble(told)
                    scribble(schedule_of(one.rows(), 1))
                    kept(one)
            self.assertEqual(one.rows(), other.rows())
            for side in (0, 1):
                self.assertEqual(one.given_in(side), other.given_in(side))
                self.assertEqual(one.given_out(side), other.given_out(side))
                self.assertEqual(schedule_of(one.rows(), side), schedule_of(other.rows(), side))

    def test_what_was_told_stays_as_it_was(self):
        walk = Walk(TERMS, (BAD_DEEDS, WORSE_DEEDS), [(0, 0, "begin", None), (0, 0, "put", "hello you"),
            (9, 1, "put", "hi")])
        for turn in range(60):
            told = (walk.rows(), walk.given_in(0), walk.given_out(1), schedule_of(walk.rows(), 0), kept(walk))
            before = repr(told)
            walk.step()
            self.assertEqual(repr(told), before)

    def test_the_same_again(self):
        draw = random.Random(4)
        for i in range(20):
            terms = some_terms(draw)
            roads, wishes = some_roads(draw, terms.lag), some_wishes(draw)
            walks = [Walk(terms, roads, wishes) for j in range(2)]
            self.assertEqual(walks[0].run(120), walks[1].run(120))
            self.assertEqual(walks[0].rows(), walks[1].rows())

    def test_asking_changes_nothing(self):
        asked, left = (Walk(TERMS, (BAD_DEEDS, []), [(0, 0, "begin", None), (2, 0, "put", "abc"),
            (20, 1, "end", None)]) for i in "ab")
        for turn in range(60):
            asked.quiet()
            asked.rows()
            asked.run(0)
            asked.given_in(0)
            asked.given_out(0)
            kept(asked)
            asked.step()
            left.step()
        self.assertEqual(asked.rows(), left.rows())


class ThePromise(unittest.TestCase):
    def test_a_beginning_at_each_turns_end_on_all_roads(self):
        draw = random.Random(30)
        given = 0
        for i in range(150):
            terms = some_terms(draw)
            walk = Walk(terms, some_roads(draw, terms.lag), some_wishes(draw, 60))
            while walk.turn < 250 and not walk.quiet():
                walk.step()
                for side in (0, 1):
                    out = walk.given_out(side)
                    self.assertEqual(out, walk.given_in(1 - side)[:len(out)])
            given += len(walk.given_out(0)) + len(walk.given_out(1))
        self.assertTrue(given > 1000)

    def test_a_beginning_at_the_desk(self):
        draw = random.Random(31)
        for i in range(20):
            terms = some_terms(draw)
            walk = Walk(terms, some_roads(draw, terms.lag), some_wishes(draw))
            desk = Desk()
            for row in kept(walk).split("\n"):
                desk.say(row)
            for turn in range(0, 200, 9):
                desk.say("turn %d" % turn)
                self.assertTrue(desk.say("in 0").startswith(desk.say("out 1")))
                self.assertTrue(desk.say("in 1").startswith(desk.say("out 0")))

    def test_filed_at_its_own_place_with_the_least_ring(self):
        # Many things on a ring that is just the need: what is old comes as late as it can.
        draw = random.Random(32)
        filed = 0
        for i in range(60):
            terms = some_terms(draw)
            late = [[(1, 0, 0), (terms.lag, 0, 0)], [(terms.lag, 0, 0)], [(1, 0, 0), (terms.lag, 0, 0), (1, 5, 77)], []]
            draw.shuffle(late)
            wishes = [(0, draw.randrange(2), "begin", None)] + [(4 + j, j % 2, "put",
                "abcdefgh" * 7) for j in range(12)]
            walk = Walk(terms, (late, late[::-1]), wishes)
            walk.run(500)
            sent = {row[2:4]: row for row in walk.rows() if row[0] == "sent"}
            for row in walk.rows():
                if row[0] == "came" and row[5] == "filed":
                    origin = sent[(1 - row[2], row[3])]
                    self.assertEqual((row[4], row[6]), (origin[4], origin[6]))
                    self.assertTrue(1 <= row[1] - origin[1] <= terms.lag)
                    filed += 1
        self.assertTrue(filed > 2000)

    def test_the_need_is_just_wide_enough(self):
        for room in range(1, 7):
            for lag in range(1, 9):
                least = need(room, lag)
                self.assertEqual(fooling(least, room, lag), [])
                if least - 1 > room:
                    turns = fooling(least - 1, room, lag)
                    self.assertTrue(self.files_wrongly(Pair(least - 1, room, lag), turns))
                    self.assertFalse(self.files_wrongly(Pair(least, room, lag), turns))

    def files_wrongly(self, pair, turns):
        items = []
        for comings, answers, item in turns:
            try:
                told = pair.play(comings, answers, item)
            except BadTurn:
                self.fail("a turn was refused")
            items.append(item)
            if any(place not in (None, items[coming]) for coming, place in zip(comings, told)):
                return True
        return False

    def test_nothing_spoilt_is_taken(self):
        hand = Hand(0, TERMS)
        frame = written(("begin", 0, 0, 8, (), ""))
        for run in range(1, 256):
            for place in range(67):
                self.assertEqual(hand.come(frame ^ (run << place), 0), ("spoilt", None))
        self.assertEqual((hand.name(), hand.taker.got, hand.quiet()), ("shut", 0, True))

    def test_all_is_given_out_on_fair_roads(self):
        for roads in (([], []), (BAD_DEEDS, []), ([], WORSE_DEEDS), (BAD_DEEDS, WORSE_DEEDS), (WORSE_DEEDS, BAD_DEEDS)):
            wishes = [(0, 0, "begin", None), (0, 1, "begin", None), (0, 0, "put", "a" * 60), (5, 1, "put", "b" * 60)]
            wishes += [(60, 1, "end", None), (150, 1, "begin", None), (150, 1, "put", "c" * 33)]
            walk = Walk(TERMS, roads, wishes)
            most = reckoned(TERMS, roads, wishes)
            self.assertLessEqual(walk.run(most), most)
            self.assertIs(walk.quiet(), True)
            self.assertEqual(walk.given_out(0), walk.given_in(1))
            self.assertEqual(walk.given_out(1), walk.given_in(0))
            again = walk_of(kept(walk))
            self.assertEqual(again.rows(), walk.rows())


if __name__ == "__main__":
    unittest.main()
