import random
import unittest

from slowroad.desk import Desk
from slowroad.errors import NoRow
from slowroad.reckon import reckoned
from slowroad.texts import kept
from slowroad.walk import Walk
from talks import BAD_DEEDS, TERMS, some_roads, some_terms, some_wishes

TERMS_ROW = "terms 24 5 8 6 4 30"
ROAD_ROW = "road 0 3,0,0 - 1,0,0+5,0,0 2,30,9 6,0,0+1,66,255 1,0,0"
WISH_ROWS = ("wish 0 0 begin", "wish 0 0 put hello  you", "wish 4 1 begin", "wish 9 1 put ~ & $", "wish 12 1 read 3")
WISHES = [
    (0, 0, "begin", None), (0, 0, "put", "hello  you"), (4, 1, "begin", None), (9, 1, "put", "~ & $"),
    (12, 1, "read", 3),
]
QUESTIONS = (
    "state 0", "state 1", "stand 0", "stand 1", "in 0", "in 1", "out 0", "out 1", "quiet", "bound", "kept", "turn 0",
    "run 0",
)
NO_ROWS = (
    "", " ", "x", "ok", "state", "state 2", "state ", "state 0 ", "state  0", "state 00", "state -1", "state 0 1",
    "State 0",
    "stand", "stand 2", "stand 0 1", "in", "in 2", "in  0", "out", "out x", "quiet ", " quiet", "quiet 0", "Quiet",
    "bound ",
    "bound 1", "kept ", "kept\n", "kept 0", "turn", "turn ", "turn x", "turn -1", "turn 01", "turn 1 1", "turn  1",
    "turn 4001",
    "turn 1\n", "run", "run ", "run x", "run 01", "run 4001", "run 1 2", "run 1000000000", "turn 1000000000",
    "turn \u0661",
    "state \u0660", "\n", "quiet\nquiet", "road", "wish", "terms", "rows", "step", "state\t0", "%", "\u00e4",
)


def told(*rows):
    desk = Desk()
    for row in rows:
        assert desk.say(row) == "ok", row
    return desk


def talking():
    return told(TERMS_ROW, ROAD_ROW, *WISH_ROWS)


def walking():
    return Walk(TERMS, (BAD_DEEDS, []), WISHES)


class Answers(unittest.TestCase):
    def agrees(self, desk, walk, bound):
        for side in (0, 1):
            row = [row for row in walk.rows() if row[0] == "end" and row[2] == side][-1:]
            name, stand = (row[0][3], row[0][4:9]) if row else ("shut", (0, 0, 1, 0, 0))
            self.assertEqual(desk.say("state %d" % side), name)
            self.assertEqual(desk.say("stand %d" % side), " ".join(str(number) for number in stand))
            self.assertEqual(desk.say("in %d" % side), "".join(thing[1] for thing in walk.given_in(side)))
            self.assertEqual(desk.say("out %d" % side), "".join(thing[1] for thing in walk.given_out(side)))
        self.assertEqual(desk.say("quiet"), "yes" if walk.quiet() else "no")
        self.assertEqual(desk.say("bound"), "none" if bound is None else str(bound))
        self.assertEqual(desk.say("kept"), kept(walk))

    def test_turn_by_turn(self):
        desk, walk = talking(), walking()
        bound = reckoned(TERMS, (BAD_DEEDS, []), WISHES)
        for turn in range(90):
            self.assertEqual(desk.say("turn %d" % turn), "ok")
            self.agrees(desk, walk, bound)
            walk.step()

    def test_turn_goes_on_though_it_is_quiet(self):
        desk = told(TERMS_ROW)
        self.assertEqual(desk.say("quiet"), "yes")
        self.assertEqual(desk.say("turn 7"), "ok")
        self.assertEqual(desk.say("kept"), TERMS_ROW + "\nroad 0\nroad 1\nturn 7")
        self.assertEqual(desk.say("turn 7"), "ok")
        self.assertEqual(desk.say("turn 4000"), "ok")
        self.assertEqual(desk.say("kept"), TERMS_ROW + "\nroad 0\nroad 1\nturn 4000")

    def test_run_stops_where_it_is_quiet(self):
        desk, walk = talking(), walking()
        self.assertEqual(desk.say("run 20"), "20")
        self.assertEqual(desk.say("run 10"), "20")
        turns = walk.run(4000)
        self.assertTrue(20 < turns < 4000)
        self.assertEqual(desk.say("run 4000"), str(turns))
        self.assertEqual(desk.say("quiet"), "yes")
        self.assertEqual(desk.say("run 4000"), str(turns))
        self.assertEqual(desk.say("run 0"), str(turns))
        self.agrees(desk, walk, reckoned(TERMS, (BAD_DEEDS, []), WISHES))
        self.assertEqual(desk.say("out 1"), "hello  you")
        self.assertEqual(desk.say("out 0"), "~ & $")

    def test_a_talk_without_wishes(self):
        self.assertEqual(told(TERMS_ROW).say("run 100"), "0")
        self.assertEqual(told(TERMS_ROW).say("state 1"), "shut")
        self.assertEqual(told(TERMS_ROW).say("stand 0"), "0 0 1 0 0")
        self.assertEqual(told(TERMS_ROW).say("in 0"), "")
        self.assertEqual(told(TERMS_ROW).say("out 1"), "")
        self.assertEqual(told(TERMS_ROW).say("bound"), str(14 * 52 + 16))
        self.assertEqual(told(TERMS_ROW).say("kept"), TERMS_ROW + "\nroad 0\nroad 1\nturn 0")

    def test_bound_none(self):
        for row in ("road 0 -", "road 1 1,0,1"):
            self.assertEqual(told(TERMS_ROW, row).say("bound"), "none")

    def test_a_road_in_the_place_of_the_one_ahead(self):
        desk = told(TERMS_ROW, "road 1 -", "road 0 1,0,0", "road 1 2,0,0 -", "road 0")
        self.assertEqual(desk.say("kept"), TERMS_ROW + "\nroad 0\nroad 1 2,0,0 -\nturn 0")

    def test_rows_in_any_order(self):
        desk = told(TERMS_ROW, "wish 5 1 end", "road 1 -", "wish 0 0 begin", "road 0 -")
        self.assertEqual(desk.say("kept"), TERMS_ROW + "\nroad 0 -\nroad 1 -\nwish 5 1 end\nwish 0 0 begin\nturn 0")

    def test_new_terms_let_go_what_was_told(self):
        desk = talking()
        desk.say("turn 30")
        self.assertEqual(desk.say("terms 64 16 1 32 2 64"), "ok")
        self.assertEqual(desk.say("wish 0 0 begin"), "ok")
        self.assertEqual(desk.say("kept"), "terms 64 16 1 32 2 64\nroad 0\nroad 1\nwish 0 0 begin\nturn 0")
        self.assertEqual(desk.say(TERMS_ROW), "ok")
        self.assertEqual(desk.say("kept"), TERMS_ROW + "\nroad 0\nroad 1\nturn 0")

    def test_terms_told_twice_ahead_of_a_walk(self):
        desk = told(TERMS_ROW, "road 0 -", "wish 0 0 begin", TERMS_ROW)
        self.assertEqual(desk.say("kept"), TERMS_ROW + "\nroad 0\nroad 1\nturn 0")

    def test_two_desks_know_nothing_of_one_another(self):
        one, other = talking(), told(TERMS_ROW)
        one.say("turn 5")
        self.assertEqual(other.say("wish 0 1 begin"), "ok")
        self.assertEqual(other.say("kept"), TERMS_ROW + "\nroad 0\nroad 1\nwish 0 1 begin\nturn 0")

    def test_walks_by_chance(self):
        draw = random.Random(94)
        for i in range(40):
            terms = some_terms(draw)
            roads, wishes = some_roads(draw, terms.lag), some_wishes(draw)
            walk = Walk(terms, roads, wishes)
            rows = kept(walk).split("\n")
            desk = told(*rows)
            turns = walk.run(200)
            self.assertEqual(desk.say("run 200"), str(turns))
            self.agrees(desk, walk, reckoned(terms, roads, wishes))


class KeptText(unittest.TestCase):
    def test_told_row_by_row(self):
        draw = random.Random(97)
        for i in range(60):
            terms = some_terms(draw)
            walk = Walk(terms, some_roads(draw, terms.lag), some_wishes(draw, 60))
            for turn in range(draw.choice((0, 1, 30, 150))):
                walk.step()
            text = kept(walk)
            desk = Desk()
            for row in text.split("\n"):
                self.assertEqual(desk.say(row), "ok")
            self.assertEqual(desk.say("kept"), text)


class Refused(unittest.TestCase):
    def refuses(self, desk, row, at):
        for i in range(2):
            with self.assertRaises(NoRow) as taken:
                desk.say(row)
            self.assertEqual(taken.exception.at, at, row)

    def test_no_terms_yet(self):
        desk = Desk()
        for row in QUESTIONS + NO_ROWS + ("road 0", "road 1 -", "wish 0 0 begin", "turn 5", "run 5"):
            self.refuses(desk, row, 0)
        self.assertEqual(desk.say(TERMS_ROW), "ok")
        self.assertEqual(desk.say("state 0"), "shut")

    def test_rows_of_no_form(self):
        desk = talking()
        for row in NO_ROWS:
            self.refuses(desk, row, 7)
        # None of them made the walk.
        self.assertEqual(desk.say("road 1 -"), "ok")
        self.assertEqual(desk.say("turn 3"), "ok")
        before = desk.say("kept")
        for row in NO_ROWS:
            self.refuses(desk, row, 10)
        self.assertEqual(desk.say("kept"), before)

    def test_terms_that_are_refused(self):
        for row in ("terms 24 5 8 6 4", "terms 24 5 8 6 4 30 ", "terms 65 5 8 6 4 30", "terms 20 5 8 6 4 30",
                "terms 24 5 8 6 4 065",
                    "terms  24 5 8 6 4 30", "terms 24 5 8 6 4 30\n", "terms"):
            self.refuses(Desk(), row, 0)
            desk = talking()
            self.refuses(desk, row, 7)
            self.assertEqual(desk.say("wish 20 0 end"), "ok")
            desk.say("turn 9")
            before = desk.say("kept")
            self.refuses(desk, row, 10)
            self.assertEqual(desk.say("kept"), before)

    def test_roads_that_are_refused(self):
        desk = talking()
        for row in ("road", "road 2", "road 0 ", "road 0 x", "road 0 7,0,0", "road 0 0,0,0", "road 0 1,67,0",
                "road 1 1,0,256",
                    "road 0 1,0,0+1,0,0+1,0,0+1,0,0", "road 0" + " -" * 61, "road 0 01,0,0", "road 0 -\n", "road  0"):
            self.refuses(desk, row, 7)
        self.assertEqual(desk.say("kept"), "\n".join((TERMS_ROW, ROAD_ROW, "road 1") + WISH_ROWS + ("turn 0",)))

    def test_wishes_that_are_refused(self):
        desk = talking()
        for row in ("wish", "wish 0 0 begin ", "wish 401 0 begin", "wish 0 2 begin", "wish 0 0 put ", "wish 0 0 put a%",
                    "wish 0 0 put a\nb", "wish 0 0 put " + "a" * 61, "wish 0 0 read 0", "wish 0 0 read 61",
                    "wish 0 0 read 05",
                    "wish 0 0 stop", "wish  0 0 begin", "wish 0 0 put"):
            self.refuses(desk, row, 7)
        self.assertEqual(desk.say("kept"), "\n".join((TERMS_ROW, ROAD_ROW, "road 1") + WISH_ROWS + ("turn 0",)))

    def test_the_sixty_first_wish(self):
        desk = told(TERMS_ROW, *["wish 0 0 begin"] * 60)
        self.refuses(desk, "wish 0 0 begin", 61)
        self.assertEqual(desk.say("road 0 -"), "ok")
        self.assertEqual(desk.say("kept").count("wish"), 60)

    def test_turns(self):
        desk = talking()
        for row in ("turn 4001", "run 4001", "turn 999999999", "run 999999999"):
            self.refuses(desk, row, 7)
        self.assertEqual(desk.say("wish 30 0 end"), "ok")
        self.assertEqual(desk.say("turn 9"), "ok")
        for row in ("turn 8", "turn 0", "turn 4001", "run 4001"):
            self.refuses(desk, row, 9)
        self.assertEqual(desk.say("run 8"), "9")
        self.assertEqual(desk.say("turn 9"), "ok")
        self.assertEqual(desk.say("kept").split("\n")[-1], "turn 9")
        self.assertEqual(desk.say("turn 10"), "ok")

    def test_roads_and_wishes_behind_what_made_the_walk(self):
        for question in QUESTIONS:
            desk = talking()
            desk.say(question)
            for row in ("road 0", "road 1 -", "wish 0 0 begin", "wish 300 1 end"):
                self.refuses(desk, row, 8)
            self.assertEqual(desk.say("kept"), "\n".join((TERMS_ROW, ROAD_ROW, "road 1") + WISH_ROWS + ("turn 0",)))
            self.assertEqual(desk.say(TERMS_ROW), "ok")
            self.assertEqual(desk.say("road 1 -"), "ok")
            self.assertEqual(desk.say("wish 0 0 begin"), "ok")
            self.assertEqual(desk.say("kept"), TERMS_ROW + "\nroad 0\nroad 1 -\nwish 0 0 begin\nturn 0")

    def test_what_is_refused_is_not_counted(self):
        desk = Desk()
        answered = 0
        for row in ("x", TERMS_ROW, "x", "road 0", "wish", "wish 1 0 begin", "turn 4001", "turn 2", "turn 1",
                TERMS_ROW, "road 9",
                    "quiet", "road 0", "wish 1 0 begin", "terms", "in 0", "in 5"):
            try:
                desk.say(row)
                answered += 1
            except NoRow as refusal:
                self.assertEqual(refusal.at, answered, row)
        self.assertEqual(answered, 7)


if __name__ == "__main__":
    unittest.main()
