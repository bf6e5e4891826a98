import random
import unittest

from slowroad.errors import BadRoad, BadWish, NotNow
from slowroad.hand import Hand
from slowroad.pieces import read, written
from slowroad.roads import Road
from slowroad.terms import Terms
from slowroad.walk import Walk
from talks import BAD_DEEDS, TERMS, WORSE_DEEDS, some_roads, some_terms, some_wishes

PLAIN = ([], [])
STATE_ROWS = {
    # b, e, k, c, d less the number of talks behind.
    "shut": ((0, 0, 0, 0, 0),),
    "calling": ((1, 0, 0, 0, 0),),
    "open": ((1, 0, 0, 1, 0),),
    "left": ((1, 0, 0, 1, 1),),
    "leaving": ((1, 1, 0, 0, 0), (1, 1, 0, 1, 0)),
    "waiting": ((1, 1, 1, 0, 0), (1, 1, 1, 1, 0)),
    "closing": ((1, 1, 0, 1, 1),),
}


def plain_rows(terms, roads, wishes, turns):
    """A second walk in one piece, of hands and roads alone."""
    hands = [Hand(0, terms), Hand(1, terms)]
    ways = [Road(deeds, terms.lag) for deeds in roads]
    rows = []
    for turn in range(turns):
        for side in (0, 1):
            for sending, frame in ways[1 - side].come(turn):
                rows.append(("came", turn, side, sending, frame) + hands[side].come(frame, turn))
        for when, side, word, value in wishes:
            if when == turn and word == "read":
                rows.append(("wish", turn, side, word, value, "ok"))
                things = hands[side].read(value)
                rows += [("read", turn, side, things)] if things else []
            elif when == turn:
                went = "ok"
                try:
                    {"begin": hands[side].begin, "end": hands[side].end, "put": lambda: hands[side].put(value)}[word]()
                except NotNow:
                    went = hands[side].name()
                rows.append(("wish", turn, side, word, value, went))
        if all(when < turn for when, side, word, value in wishes):
            for side in (0, 1):
                if hands[side].name() in ("calling", "open", "left"):
                    hands[side].end()
                    rows.append(("wish", turn, side, "end", None, "ok"))
                things = hands[side].read(1000)
                rows += [("read", turn, side, things)] if things else []
        for side in (0, 1):
            what = hands[side].send(turn)
            if what:
                rows.append(("sent", turn, side, ways[side].send(turn, what[0])) + what)
        for side in (0, 1):
            s, t = hands[side].sender, hands[side].taker
            rows.append(
                ("end", turn, side, hands[side].name(), s.base, s.top, s.edge, t.got, t.out, s.meter.window,
                s.ways.wait)
            )
    return rows


def many_talks(seed, many):
    draw = random.Random(seed)
    for i in range(many):
        terms = some_terms(draw)
        yield terms, some_roads(draw, terms.lag), some_wishes(draw)


class Refused(unittest.TestCase):
    def bad_road(self, roads, at, wishes=()):
        with self.assertRaises(BadRoad) as taken:
            Walk(TERMS, roads, list(wishes))
        self.assertEqual(taken.exception.at, at)

    def bad_wish(self, wishes, at):
        with self.assertRaises(BadWish) as taken:
            Walk(TERMS, PLAIN, wishes)
        self.assertEqual(taken.exception.at, at)

    def test_roads(self):
        bad = [[], [(7, 0, 0)]]
        long = [[]] * 61
        self.bad_road((bad, []), 1)
        self.bad_road(([], bad), 1)
        self.bad_road((long, []), None)
        self.bad_road(([], long), None)
        self.bad_road(([[(1, 0, 0)] * 4], bad), 0)
        self.bad_road((bad, long), 1)
        self.bad_road((long, bad), None)
        Walk(TERMS, ([[(6, 0, 0)]], [[]] * 60), [])

    def test_roads_go_ahead_of_wishes(self):
        self.bad_road(([], [[], [], [(0, 0, 0)]]), 2, [(-1, 0, "begin", None)])

    def test_parts_of_a_wish(self):
        good = [(0, 0, "begin", None), (400, 1, "end", None), (400, 0, "put", "a" * 60), (0, 1, "read", 60),
            (9, 0, "read", 1)]
        Walk(TERMS, PLAIN, good)
        wrong = (
            (-1, 0, "begin", None), (401, 0, "begin", None), (10 ** 9, 0, "begin", None),
            (0, -1, "begin", None), (0, 2, "begin", None),
            (0, 0, "start", None), (0, 0, "", None), (0, 0, "Begin", None), (0, 0, "begin ", None),
            (0, 0, "wish", None),
            (0, 0, "begin", ""), (0, 0, "begin", "a"), (0, 0, "begin", 0), (0, 0, "begin", 1),
            (0, 0, "end", ""), (0, 0, "end", "a"), (0, 0, "end", 0), (0, 0, "end", 5),
            (0, 0, "put", None), (0, 0, "put", ""), (0, 0, "put", "a" * 61), (0, 0, "put", "a%"), (0, 0, "put", "a\n"),
            (0, 0, "put", 5), (0, 0, "put", "\u00e4"),
            (0, 0, "read", None), (0, 0, "read", 0), (0, 0, "read", -1), (0, 0, "read", 61), (0, 0, "read", "5"),
            (0, 0, "read", ""), (0, 0, "read", True), (True, 0, "begin", None), (0, False, "begin", None),
            (0, 0, "begin"), (0, 0, "begin", None, None), [0, 0, "begin", None], (), None,
        )
        for wish in wrong:
            self.bad_wish([wish], 0)
            self.bad_wish(good + [wish], 5)
            self.bad_wish([good[0], wish] + good + [wish], 1)

    def test_the_sixty_first(self):
        good = (0, 0, "begin", None)
        Walk(TERMS, PLAIN, [good] * 60)
        self.bad_wish([good] * 61, 60)
        self.bad_wish([good] * 100, 60)
        self.bad_wish([good] * 59 + [(0, 0, "no", None)] + [good] * 5, 59)
        self.bad_wish([good] * 60 + [(0, 0, "no", None)], 60)
        self.bad_wish([good] * 61 + [(0, 0, "no", None)], 60)


class Rows(unittest.TestCase):
    def test_word_for_word(self):
        terms = Terms(8, (3, 2), 2, 5, 40)
        wishes = [(1, 1, "read", 2), (0, 0, "begin", None), (0, 1, "end", None), (0, 0, "put", "hello"),
            (2, 0, "begin", None)]
        walk = Walk(terms, ([[(1, 0, 0), (2, 0, 1)]], []), wishes)
        self.assertEqual(walk.rows(), [])
        for i in range(4):
            self.assertIsNone(walk.step())
        begin = written(("begin", 0, 0, 3, (), ""))
        back = written(("begin", 0, 1, 2, (), ""))
        hell = written(("signs", 1, 1, 2, (), "hell"))
        self.maxDiff = None
        self.assertEqual(walk.rows(), [
            ("wish", 0, 0, "begin", None, "ok"),
            ("wish", 0, 1, "end", None, "shut"),
            ("wish", 0, 0, "put", "hello", "ok"),
            ("sent", 0, 0, 0, begin, "new", 0),
            ("end", 0, 0, "calling", 0, 1, 1, 0, 0, 2, 5),
            ("end", 0, 1, "shut", 0, 0, 1, 0, 0, 2, 5),
            ("came", 1, 1, 0, begin, "filed", 0),
            ("wish", 1, 1, "read", 2, "ok"),
            ("read", 1, 1, [("begin", "")]),
            ("sent", 1, 1, 0, back, "new", 0),
            ("end", 1, 0, "calling", 0, 1, 1, 0, 0, 2, 5),
            ("end", 1, 1, "open", 0, 1, 3, 1, 1, 2, 5),
            ("came", 2, 0, 0, back, "filed", 0),
            ("came", 2, 1, 0, begin ^ 1, "spoilt", None),
            ("wish", 2, 0, "begin", None, "open"),
            ("sent", 2, 0, 1, hell, "new", 1),
            ("end", 2, 0, "open", 1, 2, 3, 1, 0, 2, 6),
            ("end", 2, 1, "open", 0, 1, 3, 1, 1, 2, 5),
            ("came", 3, 1, 1, hell, "filed", 1),
            ("wish", 3, 0, "end", None, "ok"),
            ("read", 3, 0, [("begin", "")]),
            ("wish", 3, 1, "end", None, "ok"),
            ("read", 3, 1, [("signs", "hell")]),
            ("sent", 3, 0, 2, written(("signs", 2, 1, 3, (), "o")), "new", 2),
            ("sent", 3, 1, 1, written(("end", 1, 2, 2, (), "")), "new", 1),
            ("end", 3, 0, "leaving", 1, 3, 3, 1, 1, 2, 6),
            ("end", 3, 1, "leaving", 1, 2, 3, 2, 2, 3, 6),
        ])

    def test_against_a_second_walk(self):
        words, turns = {}, 0
        for terms, roads, wishes in many_talks(83, 120):
            walk = Walk(terms, roads, wishes)
            turns = walk.run(300)
            walk.step()
            walk.step()
            self.assertEqual(walk.rows(), plain_rows(terms, roads, wishes, turns + 2))
            for row in walk.rows():
                words[row[0] if row[0] in ("end", "read") else (row[0], row[5])] = True
                self.assertIs(type(row), tuple)
        for word in ("end", "read", ("wish", "ok"), ("wish", "leaving"), ("wish", "closing"), ("wish", "waiting"),
                     ("sent", "new"), ("sent", "again"), ("sent", "ask"), ("sent", "bare"),
                     ("came", "filed"), ("came", "old"), ("came", "bare"), ("came", "ask"), ("came", "spoilt")):
            self.assertIn(word, words)

    def test_wishes_stand_in_the_order_of_the_list(self):
        wishes = [(1, 1, "read", 1), (0, 0, "end", None), (1, 0, "begin", None), (0, 0, "begin", None),
            (0, 1, "begin", None)]
        walk = Walk(TERMS, PLAIN, wishes)
        walk.step()
        walk.step()
        told = [row for row in walk.rows() if row[0] == "wish"]
        self.assertEqual(told, [
            ("wish", 0, 0, "end", None, "shut"), ("wish", 0, 0, "begin", None, "ok"),
            ("wish", 0, 1, "begin", None, "ok"),
            ("wish", 1, 1, "read", 1, "ok"), ("wish", 1, 0, "begin", None, "open"),
        ])

    def test_ends_and_reads_of_their_own_above_the_last_wish(self):
        walk = Walk(TERMS, PLAIN, [(0, 0, "begin", None), (7, 0, "read", 1)])
        walk.run(60)
        ends = [row for row in walk.rows() if row[0] == "wish" and row[3] == "end"]
        self.assertEqual(ends, [("wish", 8, 0, "end", None, "ok"), ("wish", 8, 1, "end", None, "ok")])
        reads = [row for row in walk.rows() if row[0] == "read"]
        self.assertEqual(reads[0], ("read", 7, 0, [("begin", "")]))
        self.assertEqual(reads[1], ("read", 8, 1, [("begin", "")]))

    def test_no_wishes_no_talk(self):
        walk = Walk(TERMS, PLAIN, [])
        walk.step()
        walk.step()
        self.assertEqual(walk.rows(), [
            ("end", 0, 0, "shut", 0, 0, 1, 0, 0, 2, 4), ("end", 0, 1, "shut", 0, 0, 1, 0, 0, 2, 4),
            ("end", 1, 0, "shut", 0, 0, 1, 0, 0, 2, 4), ("end", 1, 1, "shut", 0, 0, 1, 0, 0, 2, 4),
        ])

    def test_told_rows_are_the_askers_own(self):
        walk = Walk(TERMS, PLAIN, [(0, 0, "begin", None), (2, 1, "read", 4)])
        walk.run(60)
        one, other = walk.rows(), walk.rows()
        right = repr(other)
        for row in one:
            if row[0] == "read":
                row[3].append(7)
        one.clear()
        self.assertEqual(repr(walk.rows()), right)
        walk.step()
        self.assertEqual(repr(other), right)
        self.assertEqual(repr(walk.rows())[:len(right) - 1], right[:-1])
        self.assertEqual(walk.given_out(1), walk.given_in(0))

    def test_what_was_handed_in_may_change_behind(self):
        roads = ([[(1, 0, 0)], [(2, 0, 0)]], [])
        wishes = [(0, 0, "begin", None), (3, 0, "put", "hello you"), (9, 1, "end", None)]
        walk, other = Walk(TERMS, roads, wishes), Walk(TERMS, roads, list(wishes))
        before = (repr(roads), repr(wishes))
        other.run(100)
        self.assertEqual((repr(roads), repr(wishes)), before)
        roads[0][0].append((3, 0, 0))
        roads[0].append([])
        roads[1].append([])
        wishes.clear()
        walk.run(100)
        self.assertEqual(walk.rows(), other.rows())


class Runs(unittest.TestCase):
    def test_turn_counts(self):
        walk = Walk(TERMS, PLAIN, [(5, 0, "begin", None)])
        self.assertEqual(walk.turn, 0)
        walk.step()
        self.assertEqual(walk.turn, 1)
        self.assertEqual(walk.run(4), 4)
        self.assertEqual(walk.turn, 4)
        self.assertEqual(walk.run(4), 4)
        self.assertEqual(walk.run(2), 4)
        self.assertEqual(walk.run(0), 4)
        self.assertEqual(walk.run(5), 5)

    def test_quiet_at_once_without_wishes(self):
        walk = Walk(TERMS, (BAD_DEEDS, []), [])
        self.assertIs(walk.quiet(), True)
        self.assertEqual(walk.run(100), 0)
        walk.step()
        self.assertEqual(walk.turn, 1)
        self.assertIs(walk.quiet(), True)
        self.assertEqual(walk.run(100), 1)

    def test_not_quiet_ahead_of_the_last_wish(self):
        walk = Walk(TERMS, PLAIN, [(3, 0, "read", 1)])
        told = []
        for i in range(6):
            told.append(walk.quiet())
            walk.step()
        self.assertEqual(told, [False] * 4 + [True] * 2)
        walk = Walk(TERMS, PLAIN, [(3, 0, "read", 1)])
        self.assertEqual(walk.run(100), 4)

    def test_not_quiet_while_the_hands_are_open_though_nothing_goes(self):
        walk = Walk(TERMS, PLAIN, [(0, 0, "begin", None), (12, 0, "read", 9), (12, 1, "read", 9)])
        for i in range(13):
            walk.step()
        for row in walk.rows()[-2:]:
            self.assertEqual((row[3:6], row[7:9]), (("open", 1, 1), (1, 1)))
        self.assertEqual([row for row in walk.rows() if row[0] == "sent" and row[1] > 9], [])
        self.assertIs(walk.quiet(), False)
        self.assertGreater(walk.run(100), 14)
        self.assertIs(walk.quiet(), True)

    def test_not_quiet_while_something_is_unread(self):
        wishes = [(0, 0, "begin", None), (5, 0, "end", None), (8, 1, "end", None)]
        for reads, turns in (([(40, 0, "read", 9)], 42), ([(40, 1, "read", 9)], 42),
                             ([(40, 0, "read", 9), (40, 1, "read", 9)], 41)):
            walk = Walk(TERMS, PLAIN, wishes + reads)
            for i in range(41):
                walk.step()
            self.assertEqual([(row[3], row[7]) for row in walk.rows()[-2:]], [("shut", 2), ("shut", 2)])
            self.assertIs(walk.quiet(), turns == 41)
            self.assertEqual(walk.run(100), turns)

    def test_it_goes_on_till_it_is_quiet_and_no_further(self):
        wishes = [(0, 0, "begin", None), (1, 1, "begin", None)]
        walk, other = (Walk(TERMS, (BAD_DEEDS, WORSE_DEEDS), wishes) for i in "ab")
        turns = walk.run(2000)
        self.assertTrue(10 < turns < 2000)
        self.assertIs(walk.quiet(), True)
        for i in range(turns):
            self.assertIs(other.quiet(), False)
            other.step()
        self.assertIs(other.quiet(), True)
        self.assertEqual(walk.rows(), other.rows())

    def test_not_quiet_while_a_copy_is_on_a_road(self):
        for side, roads in enumerate((([[(1, 0, 0), (6, 0, 0)]], []), ([], [[(1, 0, 0), (6, 0, 5)]]))):
            walk = Walk(TERMS, roads, [(0, 0, "begin", None), (0, 0, "end", None)])
            turns = walk.run(500)
            plain = Walk(TERMS, PLAIN, [(0, 0, "begin", None), (0, 0, "end", None)])
            self.assertGreaterEqual(turns, plain.run(500) + 5)
            for row in walk.rows():
                if row[0] == "sent":
                    self.assertTrue(row[1] + (6 if row[2] == side else 1) < turns)
            last = [row for row in walk.rows() if row[0] == "came"][-1]
            self.assertEqual(last[1], turns - 1)

    def test_a_lost_road_is_never_quiet(self):
        walk = Walk(TERMS, ([[]], []), [(0, 0, "begin", None)])
        self.assertEqual(walk.run(500), 500)
        self.assertIs(walk.quiet(), False)
        self.assertEqual(walk.given_out(1), [])

    def test_quiet_is_just_what_is_told_of_it(self):
        for terms, roads, wishes in many_talks(84, 60):
            walk = Walk(terms, roads, wishes)
            last = max([wish[0] for wish in wishes], default=-1)
            for turn in range(260):
                walk.step()
                rows = [row for row in walk.rows()[-60:] if row[0] == "end"][-2:]
                still = all(row[3] == "shut" and row[4] == row[5] and row[7] == row[8] for row in rows)
                still = still and all(row[5] == len(walk.given_in(row[2])) for row in rows)
                if walk.quiet():
                    self.assertTrue(still and turn + 1 > last)
                    before = len(walk.rows())
                    for i in range(3):
                        walk.step()
                    self.assertEqual([row[0] for row in walk.rows()[before:]], ["end"] * 6)
                    break


class Given(unittest.TestCase):
    def test_in_and_out(self):
        walk = Walk(TERMS, PLAIN, [(0, 0, "begin", None), (0, 0, "put", "hello"), (9, 1, "put", "you"),
            (30, 0, "end", None)])
        self.assertEqual([walk.given_in(0), walk.given_in(1), walk.given_out(0), walk.given_out(1)], [[], [], [], []])
        walk.run(200)
        first = [("begin", ""), ("signs", "hell"), ("signs", "o"), ("end", "")]
        self.assertEqual(walk.given_in(0), first)
        self.assertEqual(walk.given_out(1), first)
        second = [("begin", ""), ("signs", "you"), ("end", "")]
        self.assertEqual(walk.given_in(1), second)
        self.assertEqual(walk.given_out(0), second)

    def test_out_is_what_was_read_alone(self):
        walk = Walk(TERMS, PLAIN, [(0, 0, "begin", None), (0, 0, "put", "abcdefgh"), (12, 1, "read", 1),
            (14, 1, "read", 60)])
        told = []
        for i in range(15):
            walk.step()
            told.append(len(walk.given_out(1)))
        self.assertEqual(told, [0] * 12 + [1, 1, 3])

    def test_lists_are_the_askers_own(self):
        walk = Walk(TERMS, PLAIN, [(0, 0, "begin", None)])
        walk.run(100)
        for side in (0, 1):
            walk.given_in(side).append(7)
            walk.given_out(side).append(7)
            self.assertEqual(walk.given_in(side), [("begin", ""), ("end", "")])
            self.assertEqual(walk.given_out(side), [("begin", ""), ("end", "")])

    def test_a_beginning_at_each_turns_end(self):
        for terms, roads, wishes in many_talks(85, 150):
            walk = Walk(terms, roads, wishes)
            outs = ([], [])
            for turn in range(260):
                if walk.quiet():
                    break
                walk.step()
                for side in (0, 1):
                    out, whole = walk.given_out(side), walk.given_in(1 - side)
                    self.assertEqual(out, whole[:len(out)])
                    self.assertEqual(out[:len(outs[side])], outs[side])
                    outs[side][:] = out

    def test_each_thing_is_filed_at_its_own_place_and_nothing_spoilt_is_taken(self):
        filed = spoilt = 0
        for terms, roads, wishes in many_talks(86, 150):
            walk = Walk(terms, roads, wishes)
            walk.run(250)
            sent = {row[2:4]: row for row in walk.rows() if row[0] == "sent"}
            for row in walk.rows():
                if row[0] == "came":
                    origin = sent[(1 - row[2], row[3])]
                    self.assertTrue(1 <= row[1] - origin[1] <= terms.lag)
                    if row[4] != origin[4]:
                        spoilt += 1
                        self.assertEqual(row[5:], ("spoilt", None))
                    else:
                        self.assertNotEqual(row[5], "spoilt")
                    if row[5] == "filed":
                        filed += 1
                        self.assertIn(origin[5], ("new", "again"))
                        self.assertEqual(row[6], origin[6])
                        thing = walk.given_in(1 - row[2])[row[6]]
                        self.assertEqual((read(row[4])[0], read(row[4])[5]), thing)
        self.assertTrue(filed > 1000 and spoilt > 500)

    def test_at_most_one_piece_a_hand_in_each_turn_and_no_more_than_there_is_room_for(self):
        for terms, roads, wishes in many_talks(87, 60):
            walk = Walk(terms, roads, wishes)
            walk.run(250)
            sent = [row[1:3] for row in walk.rows() if row[0] == "sent"]
            self.assertEqual(len(sent), len(set(sent)))
            for at, row in enumerate(walk.rows()):
                if row[0] == "end" and row[2] == 0:
                    other = walk.rows()[at + 1]
                    for one, two, room in ((row, other, terms.rooms[1]), (other, row, terms.rooms[0])):
                        self.assertTrue(one[5] <= one[6] <= two[8] + room)
                        self.assertTrue(one[4] <= two[7] <= one[5])
                if row[1] > 60:
                    break


class StateNames(unittest.TestCase):
    def check(self, walk, row, other):
        name, base = row[3], row[4]
        own = [thing[0] for thing in walk.given_in(row[2])]
        taken = [thing[0] for thing in walk.given_in(1 - row[2])[:row[7]]]
        counts = (
            own.count("begin"), own.count("end"), own[:base].count("end"), taken.count("begin"), taken.count("end"),
        )
        least = min(counts)
        self.assertIn(tuple(count - least for count in counts), STATE_ROWS[name], (name, counts))
        return name

    def names_of(self, terms, roads, wishes, most=260):
        walk = Walk(terms, roads, wishes)
        names = []
        while walk.turn < most and not walk.quiet():
            walk.step()
            rows = walk.rows()[-2:]
            names.append((self.check(walk, rows[0], rows[1]), self.check(walk, rows[1], rows[0])))
        return names

    def test_from_one_side(self):
        for side in (0, 1):
            names = self.names_of(TERMS, PLAIN, [(0, side, "begin", None), (9, side, "end", None),
                (16, side, "read", 1)])
            seen = [name for at, name in enumerate(names) if at == 0 or names[at - 1] != name]
            right = [
                ("calling", "shut"), ("calling", "open"), ("open", "open"), ("leaving", "open"), ("leaving", "left"),
                ("waiting", "left"), ("waiting", "closing"), ("shut", "closing"), ("shut", "shut"),
            ]
            self.assertEqual(seen, right if side == 0 else [(two, one) for one, two in right])

    def test_from_both_at_once(self):
        names = self.names_of(
            TERMS, PLAIN,
            [(0, 0, "begin", None), (0, 1, "begin", None), (9, 0, "end", None), (9, 1, "end", None),
            (30, 0, "read", 1)],
        )
        seen = [name for at, name in enumerate(names) if at == 0 or names[at - 1] != name]
        right = ["calling", "open", "leaving", "closing", "shut"]
        self.assertEqual(seen, [(name, name) for name in right])

    def test_one_talk_behind_another(self):
        wishes = []
        for talk in range(10):
            for side in (0, 1):
                wishes += [(40 * talk, (side + talk) % 2, "begin", None), (40 * talk + 15 + side, side, "end", None)]
                wishes.append((40 * talk + 16, side, "read", 60))
        for roads in (PLAIN, ([], BAD_DEEDS), (WORSE_DEEDS, BAD_DEEDS)):
            names = self.names_of(TERMS, roads, wishes, 1000)
            self.assertEqual(names[-1], ("shut", "shut"))
            opened = [at for at in range(1, len(names)) if names[at][0] == "open" and names[at - 1][0] != "open"]
            self.assertTrue(len(opened) == 10 if roads == PLAIN else 1 < len(opened) <= 10)

    def test_on_bad_roads(self):
        seen = set()
        for terms, roads, wishes in many_talks(88, 120):
            for pair in self.names_of(terms, roads, wishes):
                seen |= set(pair)
        self.assertEqual(seen, set(STATE_ROWS))


if __name__ == "__main__":
    unittest.main()
