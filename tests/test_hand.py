import random
import unittest

from slowroad.errors import BadText, NotNow
from slowroad.hand import Hand
from slowroad.pieces import read, written
from slowroad.sender import Sender
from slowroad.taker import Taker
from slowroad.terms import Terms

TERMS = Terms(40, (8, 5), 4, 5, 40)
ALPHABET = "".join(chr(code) for code in range(32, 127) if code != 37)


def given_in(hand):
    return [hand.sender.thing(place) for place in range(hand.sender.many())]


def stand(hand):
    sender, taker = hand.sender, hand.taker
    return (
        hand.name(), given_in(hand), sender.base, sender.top, sender.edge, taker.got, taker.out, taker.answer(),
        hand.quiet(), sender.ways.smooth, sender.ways.wait, sender.meter.window, sender.meter.counted,
    )


def piece(kind, number=0, answer=0, room=5, held=(), signs=""):
    return written((kind, number, answer, room, held, signs))


def hand_in(name):
    """A hand that has come to the named state."""
    hand = Hand(0, TERMS)
    if name in ("open", "left", "closing"):
        hand.come(piece("begin", 0), 0)
        hand.send(0)
        hand.send(1)
        hand.come(piece("bare", answer=1), 2)
    if name in ("calling", "leaving", "waiting"):
        hand.begin()
        hand.send(1)
    if name in ("left", "closing"):
        hand.come(piece("end", 1, answer=1), 3)
        hand.send(3)
    if name in ("leaving", "waiting", "closing"):
        hand.end()
    if name == "waiting":
        hand.come(piece("bare", answer=1), 2)
        hand.send(2)
        hand.come(piece("bare", answer=2), 3)
    assert hand.name() == name, (name, hand.name())
    return hand


class Made(unittest.TestCase):
    def test_at_first(self):
        for side in (0, 1):
            hand = Hand(side, TERMS)
            self.assertEqual((hand.side, hand.name(), hand.quiet()), (side, "shut", True))
            self.assertIsInstance(hand.sender, Sender)
            self.assertIsInstance(hand.taker, Taker)
            self.assertIsNone(hand.send(0))

    def test_rooms(self):
        for side, own, other in ((0, 8, 5), (1, 5, 8)):
            hand = Hand(side, TERMS)
            self.assertEqual(hand.taker.answer(), (0, own, ()))
            self.assertEqual((hand.sender.meter.knee, hand.sender.ways.wait), (other, 5))
            for i in range(4):
                hand.sender.ways.ran_out()
            self.assertEqual(hand.sender.ways.wait, 40)

    def test_ring(self):
        hand = Hand(0, TERMS)
        for place in range(100):
            hand.sender.put(("signs", "a"))
            frame, word, told = hand.send(2 * place)
            self.assertEqual((word, told, read(frame)[1]), ("new", place, place % 40))
            hand.come(piece("bare", answer=(place + 1) % 40), 2 * place + 1)
            self.assertEqual(hand.sender.base, place + 1)
        hand = Hand(0, TERMS)
        for place in range(100):
            self.assertEqual(hand.come(piece("signs", place % 40, signs="a"), place), ("filed", place))
            hand.read(1)


class Wishes(unittest.TestCase):
    NAMES = ("shut", "calling", "open", "left", "leaving", "waiting", "closing")

    def test_begin(self):
        for name in self.NAMES:
            hand = hand_in(name)
            before = stand(hand)
            if name == "shut":
                self.assertIsNone(hand.begin())
                self.assertEqual((hand.name(), given_in(hand)), ("calling", [("begin", "")]))
            else:
                with self.assertRaises(NotNow) as taken:
                    hand.begin()
                self.assertEqual((taken.exception.state, taken.exception.wish), (name, "begin"))
                self.assertEqual(stand(hand), before)

    def test_end(self):
        for name in self.NAMES:
            hand = hand_in(name)
            before = stand(hand)
            if name in ("calling", "open", "left"):
                self.assertIsNone(hand.end())
                self.assertEqual(hand.name(), "closing" if name == "left" else "leaving")
                self.assertEqual(given_in(hand), before[1] + [("end", "")])
            else:
                with self.assertRaises(NotNow) as taken:
                    hand.end()
                self.assertEqual((taken.exception.state, taken.exception.wish), (name, "end"))
                self.assertEqual(stand(hand), before)

    def test_put(self):
        for name in self.NAMES:
            hand = hand_in(name)
            before = stand(hand)
            if name in ("calling", "open", "left"):
                self.assertIsNone(hand.put("abcdef"))
                self.assertEqual(hand.name(), name)
                self.assertEqual(given_in(hand), before[1] + [("signs", "abcd"), ("signs", "ef")])
            else:
                with self.assertRaises(NotNow) as taken:
                    hand.put("abcdef")
                self.assertEqual((taken.exception.state, taken.exception.wish), (name, "put"))
                self.assertEqual(stand(hand), before)

    def test_how_a_text_is_cut(self):
        for long in range(1, 61):
            text = "".join(ALPHABET[(7 * at) % 94] for at in range(long))
            hand = hand_in("calling")
            hand.put(text)
            things = given_in(hand)[1:]
            self.assertEqual([kind for kind, signs in things], ["signs"] * ((long + 3) // 4))
            self.assertEqual("".join(signs for kind, signs in things), text)
            self.assertTrue(all(len(signs) == 4 for kind, signs in things[:-1]))
            self.assertTrue(1 <= len(things[-1][1]) <= 4)

    def test_blanks_are_signs(self):
        hand = hand_in("open")
        hand.put("  a  ")
        self.assertEqual(given_in(hand)[1:], [("signs", "  a "), ("signs", " ")])

    def test_bad_texts(self):
        bad = ["", "a" * 61, "a" * 200, "a\n", "\t", "\x1f", "\x00", "a" * 60 + "\n", "abc\n"]
        for name in self.NAMES:
            hand = hand_in(name)
            before = stand(hand)
            for text in bad:
                with self.assertRaises(BadText):
                    hand.put(text)
                self.assertEqual(stand(hand), before)

    def test_each_sign(self):
        hand = hand_in("open")
        for sign in ALPHABET:
            hand.put(sign)
        self.assertEqual([signs for kind, signs in given_in(hand)[1:]], list(ALPHABET))
        for sign in ("%", "\x7f", "\x80", "\u00e4", "\u0661", "\r"):
            with self.assertRaises(BadText):
                hand.put("ab" + sign)


class Read(unittest.TestCase):
    def test_what_the_taker_gives_in_any_state(self):
        for name in Wishes.NAMES:
            hand = hand_in(name)
            got = hand.taker.got
            told = hand.read(60)
            self.assertEqual(len(told), got)
            self.assertEqual((hand.taker.out, hand.name()), (got, name))
            self.assertEqual(hand.read(1), [])

    def test_some_and_all(self):
        hand = Hand(0, TERMS)
        for number, kind in enumerate(("begin", "signs", "signs", "end")):
            hand.come(piece(kind, number, signs="ab" if kind == "signs" else ""), 0)
        self.assertEqual(hand.read(1), [("begin", "")])
        self.assertEqual(hand.read(2), [("signs", "ab"), ("signs", "ab")])
        self.assertEqual(hand.read(60), [("end", "")])
        self.assertEqual(hand.read(60), [])

    def full(self, less=0):
        hand = Hand(0, TERMS)
        for number in range(8 - less):
            hand.come(piece("signs", number, signs="a"), 0)
        self.assertEqual(hand.send(0)[1], "bare")
        self.assertIsNone(hand.send(1))
        return hand

    def test_an_answer_is_due_where_room_opens(self):
        for many in (1, 3, 60):
            hand = self.full()
            self.assertTrue(hand.quiet())
            hand.read(many)
            self.assertFalse(hand.quiet())
            frame, word, place = hand.send(2)
            self.assertEqual((word, place), ("bare", None))
            self.assertEqual(read(frame), ("bare", 0, 8, min(many, 8), (), ""))
            self.assertIsNone(hand.send(3))
            hand.read(1)
            self.assertIsNone(hand.send(4))

    def test_none_is_due_where_there_was_room(self):
        hand = self.full(less=1)
        hand.read(3)
        self.assertTrue(hand.quiet())
        self.assertIsNone(hand.send(2))

    def test_one_that_is_due_stays_due(self):
        hand = Hand(0, TERMS)
        hand.come(piece("signs", 0, signs="a"), 0)
        hand.read(1)
        self.assertEqual(hand.send(0)[1], "bare")

    def test_what_is_read_is_the_askers_own(self):
        hand = self.full()
        told = hand.read(2)
        told.append(7)
        self.assertEqual(hand.read(1), [("signs", "a")])
        self.assertEqual(told, [("signs", "a")] * 2 + [7])


class Spoilt(unittest.TestCase):
    def test_what_cannot_be_read(self):
        frame = piece("begin", 0)
        numbers = [frame ^ (run << place) for run in (1, 5, 255) for place in (0, 30, 66)]
        numbers += [-1, 2 ** 74, 2 ** 74 + frame, 10 ** 60 - 1, 1 - 10 ** 60, -frame]
        # Kind 5, with a right check.
        numbers.append((5 << 71) ^ self.check(5 << 71))
        for name in Wishes.NAMES:
            hand = hand_in(name)
            before = stand(hand)
            for number in numbers:
                self.assertEqual(hand.come(number, 5), ("spoilt", None))
                self.assertEqual(stand(hand), before)

    def check(self, bits):
        while bits > 255:
            bits ^= 263 << (bits.bit_length() - 9)
        return bits

    def test_number_or_answer_beyond_the_ring(self):
        hand = hand_in("calling")
        before = stand(hand)
        wrong = (
            ("begin", 40, 1, 5, (), ""), ("begin", 63, 1, 5, (), ""), ("signs", 40, 1, 5, (), "a"),
            ("begin", 0, 40, 5, (), ""), ("bare", 0, 40, 5, (), ""), ("bare", 0, 63, 5, (), ""),
            ("ask", 0, 41, 5, (), ""), ("end", 63, 63, 5, (1, 2), ""),
        )
        for one in wrong:
            self.assertEqual(hand.come(written(one), 2), ("spoilt", None))
            self.assertEqual(stand(hand), before)
        self.assertEqual(hand.come(piece("signs", 39, 39, signs="a"), 2), ("old", None))

    def test_ring_of_sixty_four(self):
        hand = Hand(0, Terms(64, (8, 5), 4, 5, 40))
        self.assertEqual(hand.come(piece("signs", 63, 63, signs="a"), 2), ("old", None))
        self.assertEqual(hand.come(piece("signs", 7, 63, signs="a"), 2), ("filed", 7))


class Comes(unittest.TestCase):
    def test_bare(self):
        hand = hand_in("calling")
        self.assertEqual(hand.come(piece("bare", answer=1, room=3), 2), ("bare", None))
        self.assertEqual((hand.sender.base, hand.sender.edge, hand.name()), (1, 4, "calling"))
        self.assertEqual(hand.sender.ways.smooth, (1, 1))
        self.assertTrue(hand.quiet())
        self.assertIsNone(hand.send(3))

    def test_ask(self):
        hand = hand_in("calling")
        self.assertEqual(hand.come(piece("ask", answer=1, room=3), 2), ("ask", None))
        self.assertEqual((hand.sender.base, hand.sender.edge, hand.name()), (1, 4, "calling"))
        self.assertFalse(hand.quiet())
        self.assertEqual(hand.send(3)[1:], ("bare", None))
        self.assertTrue(hand.quiet())

    def test_held_is_heard(self):
        hand = hand_in("calling")
        hand.come(piece("bare", answer=1, room=5), 2)
        hand.put("abcdefgh")
        hand.send(2)
        hand.send(3)
        hand.come(piece("bare", answer=1, room=5, held=(1,)), 4)
        self.assertEqual(hand.sender.under_way(), 1)

    def test_a_thing_is_filed_and_an_answer_is_due(self):
        hand = Hand(1, TERMS)
        self.assertEqual(hand.come(piece("signs", 2, signs="ab"), 0), ("filed", 2))
        self.assertFalse(hand.quiet())
        frame, word, place = hand.send(0)
        self.assertEqual((read(frame), word, place), (("bare", 0, 0, 5, (2,), ""), "bare", None))
        self.assertEqual(hand.come(piece("signs", 5, signs="ab"), 1), ("old", None))
        self.assertFalse(hand.quiet())
        self.assertEqual(hand.send(1)[1], "bare")
        self.assertEqual(hand.come(piece("signs", 2, signs="xy"), 2), ("filed", 2))
        self.assertFalse(hand.quiet())
        hand.come(piece("signs", 0, signs="ef"), 2)
        hand.come(piece("signs", 1, signs="cd"), 2)
        self.assertEqual(hand.read(9), [("signs", "ef"), ("signs", "cd"), ("signs", "ab")])

    def test_a_thing_bears_an_answer_too(self):
        hand = hand_in("calling")
        self.assertEqual(hand.come(piece("signs", 20, answer=1, room=2, signs="a"), 3), ("old", None))
        self.assertEqual((hand.sender.base, hand.sender.edge), (1, 3))

    def test_begin_taken_in_every_state(self):
        for name, right in (
            ("shut", "open"), ("calling", "open"), ("open", "open"), ("left", "left"), ("leaving", "leaving"),
            ("waiting", "waiting"), ("closing", "closing"),
        ):
            hand = hand_in(name)
            before = given_in(hand)
            base = hand.sender.base
            told = hand.come(piece("begin", hand.taker.got, answer=base), 6)
            self.assertEqual(told, ("filed", hand.taker.got - 1))
            self.assertEqual(hand.name(), right)
            self.assertEqual(given_in(hand), before + ([("begin", "")] if name == "shut" else []))

    def test_end_taken_in_every_state(self):
        for name, right in (
            ("shut", "shut"), ("calling", "calling"), ("open", "left"), ("left", "left"), ("leaving", "closing"),
            ("waiting", "shut"), ("closing", "closing"),
        ):
            hand = hand_in(name)
            before = given_in(hand)
            base = hand.sender.base
            told = hand.come(piece("end", hand.taker.got, answer=base), 6)
            self.assertEqual(told, ("filed", hand.taker.got - 1))
            self.assertEqual((hand.name(), given_in(hand)), (right, before))

    def test_only_what_stands_in_order_tells_the_state(self):
        hand = Hand(0, TERMS)
        self.assertEqual(hand.come(piece("end", 2), 0), ("filed", 2))
        self.assertEqual(hand.come(piece("begin", 3), 0), ("filed", 3))
        self.assertEqual(hand.come(piece("signs", 1, signs="a"), 0), ("filed", 1))
        self.assertEqual((hand.name(), given_in(hand)), ("shut", []))
        self.assertEqual(hand.come(piece("begin", 0), 1), ("filed", 0))
        self.assertEqual((hand.name(), given_in(hand)), ("left", [("begin", "")]))

    def test_one_taken_twice_tells_the_state_once(self):
        hand = hand_in("shut")
        hand.come(piece("begin", 0), 0)
        hand.come(piece("end", 1), 0)
        self.assertEqual(hand.come(piece("begin", 0), 1), ("old", None))
        self.assertEqual(hand.come(piece("end", 1), 1), ("old", None))
        self.assertEqual((hand.name(), given_in(hand)), ("left", [("begin", "")]))

    def test_own_begin_goes_ahead_of_what_is_put_behind(self):
        hand = Hand(0, TERMS)
        hand.come(piece("begin", 0), 0)
        hand.put("ab")
        self.assertEqual(given_in(hand), [("begin", ""), ("signs", "ab")])


class Answered(unittest.TestCase):
    def leaving(self):
        hand = Hand(0, TERMS)
        hand.begin()
        hand.send(0)
        hand.come(piece("bare", answer=1), 1)
        hand.put("ab")
        hand.end()
        hand.send(1)
        hand.send(2)
        self.assertEqual((hand.name(), hand.sender.base, hand.sender.top), ("leaving", 1, 3))
        return hand

    def test_not_ahead_of_the_end(self):
        hand = self.leaving()
        hand.come(piece("bare", answer=1), 3)
        self.assertEqual(hand.name(), "leaving")
        hand.come(piece("bare", answer=2), 3)
        self.assertEqual(hand.name(), "leaving")
        hand.come(piece("bare", answer=3), 3)
        self.assertEqual(hand.name(), "waiting")

    def test_all_at_once(self):
        hand = self.leaving()
        hand.come(piece("bare", answer=3), 3)
        self.assertEqual(hand.name(), "waiting")

    def test_an_end_that_is_held_alone_is_not_answered(self):
        hand = self.leaving()
        hand.come(piece("bare", answer=1, held=(1,)), 3)
        self.assertEqual((hand.name(), hand.sender.under_way()), ("leaving", 1))

    def test_an_old_answer_answers_nothing(self):
        hand = self.leaving()
        hand.come(piece("bare", answer=4), 3)
        hand.come(piece("bare", answer=0), 3)
        self.assertEqual(hand.name(), "leaving")

    def test_by_a_thing_and_ahead_of_it(self):
        hand = hand_in("closing")
        hand.send(4)
        self.assertEqual(hand.come(piece("begin", 2, answer=2), 5), ("filed", 2))
        # Its end was answered first: so it was shut, and the begin opens a new talk.
        self.assertEqual(hand.name(), "open")
        self.assertEqual(given_in(hand), [("begin", ""), ("end", ""), ("begin", "")])

    def test_closing_answered(self):
        hand = hand_in("closing")
        hand.send(4)
        hand.come(piece("bare", answer=2), 5)
        self.assertEqual(hand.name(), "shut")

    def test_answered_again_for_the_next_talk(self):
        one, other = Hand(0, TERMS), Hand(1, TERMS)
        turn = 0
        for talk in range(12):
            one.begin()
            one.end()
            for i in range(20):
                turn += 1
                if other.name() == "left":
                    other.end()
                for hand, peer in ((one, other), (other, one)):
                    hand.read(9)
                    what = hand.send(turn)
                    if what is not None:
                        peer.come(what[0], turn)
            self.assertEqual((one.name(), other.name()), ("shut", "shut"))
            self.assertEqual((one.quiet(), other.quiet()), (True, True))


class Sends(unittest.TestCase):
    def test_nothing(self):
        hand = Hand(0, TERMS)
        for turn in range(30):
            self.assertIsNone(hand.send(turn))

    def test_new_and_again(self):
        hand = Hand(1, TERMS)
        hand.begin()
        frame, word, place = hand.send(0)
        self.assertEqual((read(frame), word, place), (("begin", 0, 0, 5, (), ""), "new", 0))
        self.assertIs(type(hand.send(5)), tuple)
        hand.come(piece("bare", answer=1, room=8), 6)
        hand.put("wxyz!")
        hand.end()
        told = [hand.send(turn) for turn in (6, 7, 8)]
        self.assertEqual(read(told[0][0]), ("signs", 1, 0, 5, (), "wxyz"))
        self.assertEqual(told[0][1:], ("new", 1))
        self.assertEqual(read(told[1][0]), ("signs", 2, 0, 5, (), "!"))
        self.assertEqual(told[1][1:], ("new", 2))
        self.assertIsNone(told[2])
        frame, word, place = hand.send(6 + hand.sender.ways.wait)
        self.assertEqual((read(frame), word, place), (("signs", 1, 0, 5, (), "wxyz"), "again", 1))

    def test_an_end(self):
        hand = hand_in("leaving")
        hand.come(piece("bare", answer=1), 2)
        frame, word, place = hand.send(2)
        self.assertEqual((read(frame), word, place), (("end", 1, 0, 8, (), ""), "new", 1))

    def test_ask(self):
        hand = hand_in("calling")
        hand.put("a")
        hand.come(piece("bare", answer=1, room=0), 2)
        told = [hand.send(turn) for turn in range(2, 40)]
        asks = [one for one in told if one is not None]
        self.assertTrue(len(asks) >= 2)
        for frame, word, place in asks:
            self.assertEqual((read(frame), word, place), (("ask", 0, 0, 8, (), ""), "ask", None))

    def test_every_piece_bears_the_answer_as_it_is_then(self):
        hand = Hand(0, TERMS)
        hand.come(piece("begin", 0), 0)
        hand.come(piece("signs", 2, signs="c"), 0)
        hand.come(piece("signs", 5, signs="f"), 0)
        hand.read(1)
        frame, word, place = hand.send(0)
        self.assertEqual((read(frame), word, place), (("begin", 0, 1, 8, (1, 4), ""), "new", 0))
        # What goes new bears the answer: no bare one goes behind it.
        self.assertIsNone(hand.send(1))
        hand.come(piece("signs", 1, signs="b"), 2)
        frame, word, place = hand.send(2)
        self.assertEqual((read(frame), word, place), (("bare", 0, 3, 6, (2,), ""), "bare", None))
        self.assertIsNone(hand.send(3))
        frame, word, place = hand.send(5)
        self.assertEqual((read(frame), word, place), (("begin", 0, 3, 6, (2,), ""), "again", 0))

    def test_an_ask_and_one_again_bear_the_answer_that_is_due(self):
        hand = hand_in("calling")
        hand.come(piece("signs", 0, signs="a"), 5)
        self.assertEqual(hand.send(6)[1], "again")
        self.assertIsNone(hand.send(7))
        hand = hand_in("calling")
        hand.put("a")
        hand.come(piece("bare", answer=1, room=0), 2)
        self.assertIsNone(hand.send(2))
        hand.come(piece("signs", 0, answer=1, room=0, signs="a"), 20)
        self.assertEqual(hand.send(20)[1], "ask")
        self.assertIsNone(hand.send(21))


class Quiet(unittest.TestCase):
    def test_what_waits_and_what_is_under_way(self):
        hand = Hand(0, TERMS)
        self.assertIs(hand.quiet(), True)
        hand.begin()
        self.assertIs(hand.quiet(), False)
        hand.send(0)
        self.assertIs(hand.quiet(), False)
        hand.come(piece("bare", answer=1), 1)
        self.assertIs(hand.quiet(), True)
        hand.put("a")
        self.assertIs(hand.quiet(), False)

    def test_an_answer_that_is_due(self):
        hand = Hand(0, TERMS)
        hand.come(piece("ask"), 0)
        self.assertIs(hand.quiet(), False)
        hand.send(0)
        self.assertIs(hand.quiet(), True)

    def test_unread_things_do_not_count(self):
        hand = Hand(0, TERMS)
        hand.come(piece("signs", 0, signs="a"), 0)
        hand.send(0)
        self.assertIs(hand.quiet(), True)


class Strange(unittest.TestCase):
    def test_any_frame_is_told_of_and_nothing_is_refused(self):
        draw = random.Random(78)
        words = {"spoilt", "bare", "ask", "filed", "old"}
        seen = set()
        for i in range(60):
            rooms = (draw.choice((1, 8, 16)), draw.choice((1, 5, 16)))
            hand = Hand(draw.randrange(2), Terms(40, rooms, 4, 5, 40))
            for turn in range(150):
                for j in range(draw.randrange(3)):
                    kind = draw.choice(("bare", "signs", "begin", "end", "ask"))
                    number = 0 if kind in ("bare", "ask") else draw.randrange(45)
                    held = tuple(step for step in range(1, 16) if draw.random() < 0.3)
                    signs = "abcd" if kind == "signs" else ""
                    frame = written((kind, number, draw.randrange(45), draw.randrange(17), held, signs))
                    word, place = hand.come(frame, turn)
                    self.assertIn(word, words)
                    self.assertEqual(type(place), int if word == "filed" else type(None))
                    seen.add(word)
                wish = draw.choice((hand.begin, hand.end, lambda: hand.put("abcdefg"), lambda: hand.read(3)))
                try:
                    wish()
                except NotNow:
                    pass
                what = hand.send(turn)
                if what is not None:
                    read(what[0])
        self.assertEqual(seen, words)


if __name__ == "__main__":
    unittest.main()
