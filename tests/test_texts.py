import random
import unittest

from slowroad.errors import NoRow
from slowroad.terms import Terms
from slowroad.texts import kept, walk_of
from slowroad.walk import Walk
from talks import BAD_DEEDS, TERMS, WORSE_DEEDS, some_roads, some_terms, some_wishes

TEXT = "\n".join((
    "terms 24 5 8 6 4 30",
    "road 0 1,0,0 - 3,0,0+2,66,255",
    "road 1",
    "wish 0 0 begin",
    "wish 3 0 put  a b  ",
    "wish 400 1 end",
    "wish 7 1 read 60",
    "wish 7 0 put wish 1 0 begin",
    "turn 12",
))
ROADS = ([[(1, 0, 0)], [], [(3, 0, 0), (2, 66, 255)]], [])
WISHES = [
    (0, 0, "begin", None), (3, 0, "put", " a b  "), (400, 1, "end", None), (7, 1, "read", 60),
    (7, 0, "put", "wish 1 0 begin"),
]


def with_row(at, row):
    rows = TEXT.split("\n")
    rows[at] = row
    return "\n".join(rows)


class Kept(unittest.TestCase):
    def test_word_for_word(self):
        walk = Walk(TERMS, ROADS, WISHES)
        for i in range(12):
            walk.step()
        self.assertEqual(kept(walk), TEXT)

    def test_at_first(self):
        walk = Walk(Terms(64, (16, 1), 32, 2, 64), ([], [[]]), [])
        self.assertEqual(kept(walk), "terms 64 16 1 32 2 64\nroad 0\nroad 1 -\nturn 0")

    def test_a_walk_stays_as_it_is(self):
        walk = Walk(TERMS, ROADS, WISHES)
        walk.step()
        before = (walk.rows(), walk.turn)
        self.assertEqual(kept(walk), kept(walk))
        self.assertEqual((walk.rows(), walk.turn), before)

    def test_what_was_handed_in_may_change_behind(self):
        roads, wishes = ([list(deed) for deed in ROADS[0]], []), list(WISHES)
        walk = Walk(TERMS, roads, wishes)
        wishes.clear()
        roads[0][0].append((1, 0, 0))
        roads[1].append([])
        for i in range(12):
            walk.step()
        self.assertEqual(kept(walk), TEXT)


class ReadAgain(unittest.TestCase):
    def test_word_for_word(self):
        walk = walk_of(TEXT)
        self.assertIsInstance(walk, Walk)
        self.assertEqual(walk.turn, 12)
        other = Walk(TERMS, ROADS, WISHES)
        for i in range(12):
            other.step()
        self.assertEqual(walk.rows(), other.rows())
        self.assertEqual(kept(walk), TEXT)

    def test_same_rows_and_same_text_at_many_turns(self):
        draw = random.Random(93)
        for i in range(60):
            terms = some_terms(draw)
            walk = Walk(terms, some_roads(draw, terms.lag), some_wishes(draw))
            for turn in range(draw.choice((0, 1, 2, 17, 120))):
                walk.step()
            text = kept(walk)
            other = walk_of(text)
            self.assertEqual((other.turn, other.rows()), (walk.turn, walk.rows()))
            self.assertEqual(kept(other), text)
            for turn in range(40):
                walk.step()
                other.step()
            self.assertEqual(other.rows(), walk.rows())
            self.assertEqual(kept(other), kept(walk))

    def test_quiet_or_not_all_turns_are_done(self):
        walk = walk_of("terms 24 5 8 6 4 30\nroad 0\nroad 1\nturn 50")
        self.assertEqual((walk.turn, len(walk.rows())), (50, 100))

    def test_up_to_four_thousand(self):
        text = "terms 24 5 8 6 4 30\nroad 0 -\nroad 1\nwish 0 0 begin\nturn 4000"
        walk = walk_of(text)
        self.assertEqual((walk.turn, kept(walk)), (4000, text))

    def test_sixty_wishes_and_sixty_deeds(self):
        rows = ["terms 24 5 8 6 4 30", "road 0" + " 1,0,0" * 60,
            "road 1" + " -" * 60] + ["wish 0 0 begin"] * 60 + ["turn 3"]
        text = "\n".join(rows)
        self.assertEqual(kept(walk_of(text)), text)

    def test_each_sign_may_be_put(self):
        alphabet = "".join(chr(code) for code in range(32, 127) if code != 37)
        for text in (alphabet[:60], alphabet[60:], " ", "   ", "+,-", "a" * 60):
            row = "wish 0 1 put " + text
            whole = "terms 24 5 8 6 4 30\nroad 0\nroad 1\n" + row + "\nturn 1"
            walk = walk_of(whole)
            self.assertEqual(kept(walk), whole)
            self.assertEqual(walk.rows()[0], ("wish", 0, 1, "put", text, "shut"))


class Refused(unittest.TestCase):
    def refuses(self, text, at):
        with self.assertRaises(NoRow) as taken:
            walk_of(text)
        self.assertEqual(taken.exception.at, at, text)

    def test_text_without_signs(self):
        self.refuses("", 0)
        self.refuses("\n", 0)

    def test_terms(self):
        wrong = (
            "", "terms", "terms ", "terms 24 5 8 6 4", "terms 24 5 8 6 4 30 ", "terms 24 5 8 6 4 30 1",
            " terms 24 5 8 6 4 30",
            "terms  24 5 8 6 4 30", "terms 24 5 8 6  30", "terms 24 5 8 6 4 x", "Terms 24 5 8 6 4 30",
            "term 24 5 8 6 4 30",
            "terms 024 5 8 6 4 30", "terms 24 05 8 6 4 30", "terms 24 5 8 6 00 30", "terms 24 5 8 6 4 +30",
            "terms -24 5 8 6 4 30",
            "terms 24 5 8 6 4 30\r", "terms 24 5 8 6 4 3_0", "terms 24 5 8 6 4 3.0", "terms\t24 5 8 6 4 30",
            "terms \u0662\u0664 5 8 6 4 30", "terms 24 5 8 6 4 \u00b2", "terms 24,5,8,6,4,30",
            # Refused: the ring, a room, the lag, the waits, and a ring that isn't wide enough.
            "terms 65 5 8 6 4 30", "terms 24 0 8 6 4 30", "terms 24 5 0 6 4 30", "terms 24 5 17 6 4 30",
            "terms 24 5 8 0 4 30",
            "terms 24 5 8 33 4 30", "terms 24 5 8 6 1 30", "terms 24 5 8 6 31 30", "terms 24 5 8 6 4 65",
            "terms 20 5 8 6 4 30",
            "terms 20 8 5 6 4 30", "terms 0 0 0 0 0 0", "terms 999999999 5 8 6 4 30", "terms 1000000000 5 8 6 4 30",
            "road 0", "turn 0", "wish 0 0 begin",
        )
        for row in wrong:
            self.refuses(with_row(0, row), 0)
            self.refuses(row, 0)

    def test_roads(self):
        wrong = (
            "", "road", "road ", "road 0 ", "road 2", "road 00", "road  0", "road 0  -", "road 0 - ", "Road 0",
            "road 0\r", "road -",
            "road 0 --", "road 0 1", "road 0 1,0", "road 0 1,0,0,0", "road 0 1,0,", "road 0 ,,", "road 0 1,0,0+",
            "road 0 +1,0,0",
            "road 0 1,0,0++1,0,0", "road 0 1,0,0+-", "road 0 -+1,0,0", "road 0 01,0,0", "road 0 1,00,0",
            "road 0 1,0,0;1,0,0",
            "road 0 1, 0,0", "road 0 1,0,-1", "road 0 1,0,x", "road 0 1,0,0 x", "road 0 1000000000,0,0",
            "road 0 (1,0,0)",
            # Refused: a delay, a place, a run beyond its bound, four copies, sixty-one deeds.
            "road 0 0,0,0", "road 0 7,0,0", "road 0 1,67,0", "road 0 1,0,256", "road 0 1,0,0 - 9,0,0",
            "road 0 1,0,0+1,0,0+1,0,0+1,0,0", "road 0" + " -" * 61, "road 0 999999999,0,0",
            "turn 0", "wish 0 0 begin", "terms 24 5 8 6 4 30",
        )
        for row in wrong:
            self.refuses(with_row(1, row), 1)
            self.refuses(with_row(2, row.replace("road 0", "road 1")), 2)
        self.refuses(with_row(1, "road 1"), 1)
        self.refuses(with_row(2, "road 0"), 2)

    def test_roads_are_held_to_the_lag_of_the_terms(self):
        rows = ["terms 24 5 8 6 4 30", "road 0 6,0,0", "road 1", "turn 0"]
        self.assertEqual(kept(walk_of("\n".join(rows))), "\n".join(rows))
        rows[0] = "terms 24 5 8 5 4 30"
        self.refuses("\n".join(rows), 1)

    def test_wishes(self):
        wrong = (
            "", "wish", "wish ", "wish 0", "wish 0 0", "wish 0 0 ", "wish 0 0 begin ", "wish 0 0 begin None",
            "wish 0 0 end ",
            "wish 0 0 end 1", "wish 0 0 read", "wish 0 0 read ", "wish 0 0 read x", "wish 0 0 read 05",
            "wish 0 0 read 5 ",
            "wish 0 0 read 5 5", "wish 0 0 read  5", "wish 0 0 put", "wish 0 0 put ", "wish 00 0 begin",
            "wish 0 00 begin",
            "wish  0 0 begin", "wish 0  0 begin", "wish 0 0  begin", " wish 0 0 begin", "wish -1 0 begin",
            "wish 0 -1 begin",
            "wish x 0 begin", "wish 0 x begin", "wish 0 0 Begin", "Wish 0 0 begin", "wish 0 0 start",
            "wish 0 0 read -1",
            "wish 0 0 read \u0665", "wish 0 0 begin\r", "wishes 0 0 begin",
            # Refused: the turn, the side, how many are read, what is put.
            "wish 401 0 begin", "wish 0 2 begin", "wish 0 0 read 0", "wish 0 0 read 61", "wish 0 0 put " + "a" * 61,
            "wish 0 0 put a%", "wish 0 0 put \u00e4", "wish 0 0 put a\t", "wish 1000000000 0 begin",
            "terms 24 5 8 6 4 30", "road 0", "road 1",
        )
        for row in wrong:
            for at in (3, 5, 7):
                self.refuses(with_row(at, row), at)

    def test_the_sixty_first_wish(self):
        rows = ["terms 24 5 8 6 4 30", "road 0", "road 1"] + ["wish 0 0 begin"] * 61 + ["turn 3"]
        self.refuses("\n".join(rows), 63)
        self.refuses("\n".join(rows[:-1]), 63)
        rows[64] = "nonsense"
        self.refuses("\n".join(rows), 63)
        rows[40] = "nonsense"
        self.refuses("\n".join(rows), 40)

    def test_turn(self):
        for row in ("", "turn", "turn ", "turn 4001", "turn 012", "turn 00", "turn -1", "turn 1 ", "turn  1",
                "turn 1 1", " turn 1",
                    "turn x", "Turn 1", "turns 1", "turn 999999999", "turn 1000000000", "run 12", "turn \u0661",
                    "turn 1\r"):
            self.refuses(with_row(8, row), 8)

    def test_rows_behind_the_turns(self):
        for row in ("", "turn 12", "wish 0 0 begin", "x", " "):
            self.refuses(TEXT + "\n" + row, 9)
            self.refuses(TEXT + "\n" + row + "\nturn 12", 9)
        self.refuses(with_row(3, "turn 12"), 4)
        self.refuses(with_row(3, "turn 4000"), 4)

    def test_rows_that_lack(self):
        rows = TEXT.split("\n")
        for many in range(1, 9):
            self.refuses("\n".join(rows[:many]), many)
        self.refuses("\n".join(rows[:1] + rows[-1:]), 1)
        self.refuses("\n".join(rows[:2] + rows[-1:]), 2)
        self.refuses("\n".join(rows[1:]), 0)

    def test_the_first_row_that_is_wrong(self):
        rows = TEXT.split("\n")
        for at in range(9):
            wrong = rows[:at] + ["x"] * (9 - at)
            self.refuses("\n".join(wrong), at)

    def test_other_ends_of_a_row(self):
        self.refuses(TEXT.replace("\n", "\r\n"), 0)
        self.refuses(TEXT.replace("\n", "\r"), 0)
        self.refuses("\n" + TEXT, 0)
        self.refuses(TEXT.replace("\nroad 1", "\n\nroad 1"), 2)
        self.refuses(TEXT.replace("30\n", "30\x0b"), 0)


if __name__ == "__main__":
    unittest.main()
