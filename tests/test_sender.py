import random
import unittest

from slowroad.meter import Meter
from slowroad.sender import Sender
from slowroad.ways import Ways


def thing(place):
    return ("signs", str(place))


def made(things, ring=64, first=5, longest=40, most=16):
    sender = Sender(ring, first, longest, most)
    for place in range(things):
        sender.put(thing(place))
    return sender


def stand(sender):
    return (sender.base, sender.top, sender.edge)


def inner(sender):
    ways, meter = sender.ways, sender.meter
    return stand(sender) + (ways.smooth, ways.spread, ways.wait, meter.window, meter.knee, meter.counted)


def sent(sender, many, turn=0):
    """Sends so many new things, one a turn, with room enough, and forgets no wait."""
    sender.heard(sender.base % sender.ring, 16, (), turn)
    for i in range(many):
        place = sender.top
        assert sender.go(turn + i) == ("new", place), (place, turn + i)
    return sender


class Plain:
    """A second sender, as the document tells it, with sets and one long row of cases."""

    def __init__(self, ring, first, longest, most):
        self.ring, self.ways, self.meter = ring, Ways(first, longest), Meter(most)
        self.put, self.base, self.top, self.edge = 0, 0, 0, 1
        self.known, self.when, self.once = set(), {}, {}
        self.clock, self.hurried = None, False

    def above(self):
        return [place for place in self.known if self.base < place < self.top]

    def under_way(self):
        return self.top - self.base - len(self.above())

    def heard(self, number, room, held, turn):
        d = next(d for d in range(self.ring) if (self.base + d) % self.ring == number)
        if d > self.top - self.base:
            return []
        self.base += d
        now = set(range(self.base)) | {self.base + i for i in held if self.base + i < self.top}
        new = sorted(now - self.known)
        self.known |= now
        if self.base + room > self.edge:
            self.edge = self.base + room
        for place in new:
            if self.once[place]:
                self.ways.measured(turn - self.when[place])
        self.meter.known(len(new))
        if d != 0:
            self.clock = turn + self.ways.wait if self.base < self.top else None
            self.hurried = False
        return new

    def again(self, turn):
        self.clock, self.hurried, self.once[self.base] = turn + self.ways.wait, True, False
        return ("again", self.base)

    def go(self, turn):
        waits = self.top < self.put
        if self.base < self.top and turn >= self.clock:
            self.ways.ran_out()
            self.meter.ran_out()
            return self.again(turn)
        if self.base < self.top and not self.hurried and len(self.above()) >= 2:
            self.meter.hurried()
            return self.again(turn)
        if waits and self.top < self.edge and self.under_way() < self.meter.window:
            self.when[self.top], self.once[self.top] = turn, True
            if self.base == self.top:
                self.clock = turn + self.ways.wait
            self.top += 1
            return ("new", self.top - 1)
        if waits and self.base == self.top:
            if self.clock is None:
                self.clock = turn + self.ways.wait
            elif turn >= self.clock:
                self.ways.ran_out()
                self.clock = turn + self.ways.wait
                return ("ask", None)
        return None


class Put(unittest.TestCase):
    def test_at_first(self):
        sender = Sender(16, 5, 40, 7)
        self.assertEqual(stand(sender), (0, 0, 1))
        self.assertIsInstance(sender.ways, Ways)
        self.assertIsInstance(sender.meter, Meter)
        self.assertEqual((sender.ways.wait, sender.meter.window, sender.meter.knee), (5, 2, 7))
        sender.ways.ran_out()
        sender.ways.ran_out()
        sender.ways.ran_out()
        self.assertEqual(sender.ways.wait, 40)
        self.assertEqual((sender.many(), sender.under_way()), (0, 0))

    def test_nothing_goes_where_nothing_was_put(self):
        sender = Sender(16, 5, 40, 7)
        for turn in range(30):
            self.assertIsNone(sender.go(turn))
        sender.put(thing(0))
        self.assertEqual(sender.go(30), ("new", 0))

    def test_things_stand_in_their_order(self):
        sender = Sender(16, 5, 40, 7)
        for place, one in enumerate((("begin", ""), ("signs", "ab"), ("end", ""), ("what else", 7))):
            self.assertIsNone(sender.put(one))
            self.assertEqual(sender.many(), place + 1)
            self.assertEqual(sender.thing(place), one)
        self.assertEqual(sender.thing(0), ("begin", ""))
        self.assertEqual(stand(sender), (0, 0, 1))


class Heard(unittest.TestCase):
    def test_an_old_answer_changes_nothing(self):
        sender = sent(made(5), 2)
        before = inner(sender)
        for number in (3, 4, 40, 63):
            self.assertEqual(sender.heard(number, 16, (1,), 2), [])
            self.assertEqual(inner(sender), before)
        self.assertEqual(sender.under_way(), 2)

    def test_what_was_answered_already_is_old_too(self):
        sender = sent(made(5), 2)
        self.assertEqual(sender.heard(2, 16, (), 2), [0, 1])
        before = inner(sender)
        for number in (1, 0, 63):
            self.assertEqual(sender.heard(number, 16, (1, 2), 3), [])
            self.assertEqual(inner(sender), before)

    def test_just_up_to_top(self):
        sender = sent(made(5), 2)
        self.assertEqual(sender.heard(2, 3, (), 4), [0, 1])
        self.assertEqual(stand(sender), (2, 2, 16))
        self.assertEqual(sender.under_way(), 0)

    def test_numbers_go_round(self):
        sender = made(40, ring=7)
        for place in range(40):
            self.assertEqual(sender.go(2 * place), ("new", place))
            self.assertEqual(sender.heard((place + 1) % 7, 1, (), 2 * place + 1), [place])
            self.assertEqual(stand(sender), (place + 1, place + 1, place + 2))

    def test_held_below_top_alone(self):
        sender = made(9)
        sender.meter.known(9)
        sent(sender, 4)
        self.assertEqual(sender.heard(0, 16, (1, 3, 4, 15), 4), [1, 3])
        self.assertEqual(sender.under_way(), 2)
        self.assertEqual(sender.heard(0, 16, (1, 2, 3), 4), [2])
        self.assertEqual(sender.under_way(), 1)
        self.assertEqual(sender.heard(4, 16, (1,), 4), [0])
        self.assertEqual(sender.under_way(), 0)

    def test_held_counts_from_the_new_base(self):
        sender = made(9, first=20)
        sender.meter.known(9)
        sent(sender, 6)
        self.assertEqual(sender.heard(2, 16, (2, 3), 6), [0, 1, 4, 5])
        self.assertEqual((sender.base, sender.top, sender.under_way()), (2, 6, 2))

    def test_a_place_at_base_that_is_known_is_under_way(self):
        sender = made(9)
        sender.meter.known(9)
        sent(sender, 5)
        self.assertEqual(sender.heard(0, 16, (2, 3), 5), [2, 3])
        self.assertEqual(sender.heard(2, 16, (), 5), [0, 1])
        self.assertEqual((sender.base, sender.top, sender.under_way()), (2, 5, 2))

    def test_edge_grows_and_never_falls(self):
        sender = made(9)
        sender.heard(0, 5, (), 0)
        self.assertEqual(sender.edge, 5)
        sender.heard(0, 3, (), 0)
        self.assertEqual(sender.edge, 5)
        sender.heard(0, 0, (), 0)
        self.assertEqual(sender.edge, 5)
        sender.heard(0, 6, (), 0)
        self.assertEqual(sender.edge, 6)
        sender.go(0)
        sender.heard(1, 6, (), 1)
        self.assertEqual(sender.edge, 7)

    def test_measures_in_rising_order_behind_the_ways(self):
        sender = made(9)
        sender.meter.known(9)
        sent(sender, 4)
        self.assertEqual(sender.heard(1, 16, (2,), 6), [0, 3])
        ways = Ways(5, 40)
        ways.measured(6)
        ways.measured(3)
        self.assertEqual(inner(sender)[3:6], (ways.smooth, ways.spread, ways.wait))
        self.assertEqual(sender.heard(4, 16, (), 7), [1, 2])
        ways.measured(6)
        ways.measured(5)
        self.assertEqual(inner(sender)[3:6], (ways.smooth, ways.spread, ways.wait))

    def test_what_went_again_is_not_measured(self):
        sender = sent(made(9), 2)
        self.assertEqual(sender.go(5), ("again", 0))
        self.assertEqual(sender.heard(2, 16, (), 9), [0, 1])
        self.assertEqual(sender.ways.smooth, (8, 1))

    def test_the_meter_is_told_how_many_are_new(self):
        sender = made(9)
        sender.meter.known(2)
        sent(sender, 4)
        sender.meter.hurried()
        self.assertEqual((sender.meter.window, sender.meter.knee), (2, 2))
        sender.heard(0, 16, (), 4)
        self.assertEqual((sender.meter.window, sender.meter.counted), (2, 0))
        sender.heard(0, 16, (1,), 4)
        self.assertEqual((sender.meter.window, sender.meter.counted), (2, 1))
        sender.heard(0, 16, (1,), 4)
        self.assertEqual((sender.meter.window, sender.meter.counted), (2, 1))
        sender.heard(3, 16, (), 4)
        self.assertEqual((sender.meter.window, sender.meter.counted), (3, 1))

    def test_clock_behind_a_base_that_grew(self):
        sender = sent(made(2), 2)
        sender.heard(1, 16, (), 3)
        self.assertEqual(sender.ways.wait, 9)
        for turn in range(3, 12):
            self.assertIsNone(sender.go(turn))
        self.assertEqual(sender.go(12), ("again", 1))

    def test_clock_stays_where_base_did_not_grow(self):
        sender = sent(made(2), 2)
        sender.heard(0, 16, (1,), 3)
        for turn in (3, 4):
            self.assertIsNone(sender.go(turn))
        self.assertEqual(sender.go(5), ("again", 0))

    def test_no_clock_where_all_is_answered(self):
        sender = sent(made(2), 2)
        sender.heard(2, 0, (), 3)
        for turn in range(3, 100):
            self.assertIsNone(sender.go(turn))
        # A clock that was left over would say ask at once.
        sender = made(3)
        self.assertEqual(sender.go(0), ("new", 0))
        self.assertEqual(sender.heard(1, 0, (), 1), [0])
        self.assertEqual(sender.ways.wait, 3)
        for turn in range(9, 12):
            self.assertIsNone(sender.go(turn))
        self.assertEqual(sender.go(12), ("ask", None))

    def test_what_is_told_is_the_askers_own(self):
        sender = sent(made(5), 2)
        old = sender.heard(40, 1, (), 2)
        old.append(7)
        told = sender.heard(1, 16, (), 2)
        told.append(7)
        self.assertEqual(sender.heard(40, 1, (), 2), [])
        self.assertEqual(sender.heard(2, 16, (), 2), [1])
        self.assertEqual(told, [0, 7])


class Again(unittest.TestCase):
    def test_the_wait_runs_out(self):
        sender = made(1)
        sender.meter.known(4)
        self.assertEqual(sender.go(3), ("new", 0))
        for turn in range(4, 8):
            self.assertIsNone(sender.go(turn))
        self.assertEqual(sender.go(8), ("again", 0))
        self.assertEqual((sender.ways.wait, sender.meter.window, sender.meter.knee), (10, 1, 3))
        for turn in range(9, 18):
            self.assertIsNone(sender.go(turn))
        self.assertEqual(sender.go(18), ("again", 0))
        self.assertEqual((sender.ways.wait, sender.meter.window, sender.meter.knee), (20, 1, 1))
        self.assertEqual(sender.go(50), ("again", 0))
        self.assertEqual(sender.ways.wait, 40)
        self.assertIsNone(sender.go(89))
        self.assertEqual(sender.go(90), ("again", 0))
        self.assertEqual(sender.ways.wait, 40)

    def test_the_wait_comes_ahead_of_what_is_new(self):
        sender = made(5)
        sender.heard(0, 16, (), 0)
        self.assertEqual(sender.go(0), ("new", 0))
        self.assertEqual(sender.go(5), ("again", 0))
        # Of a window of one nothing more goes till an answer comes.
        self.assertIsNone(sender.go(6))
        self.assertEqual(sender.heard(1, 16, (), 7), [0])
        self.assertEqual(sender.go(7), ("new", 1))

    def test_a_second_thing_does_not_set_the_clock(self):
        sender = made(2)
        sender.heard(0, 16, (), 0)
        self.assertEqual(sender.go(0), ("new", 0))
        self.assertEqual(sender.go(3), ("new", 1))
        self.assertIsNone(sender.go(4))
        self.assertEqual(sender.go(5), ("again", 0))

    def test_what_goes_again_is_at_base(self):
        sender = sent(made(4), 2)
        sender.heard(1, 16, (), 2)
        self.assertEqual(sender.go(100), ("again", 1))


class Hurry(unittest.TestCase):
    def four(self):
        sender = made(6)
        sender.meter.known(9)
        return sent(sender, 4)

    def test_two_known_above_base(self):
        sender = self.four()
        sender.heard(0, 16, (1, 2), 4)
        window = sender.meter.window
        wait = sender.ways.wait
        self.assertEqual(sender.go(4), ("again", 0))
        self.assertEqual((sender.meter.window, sender.meter.knee), (window // 2, window // 2))
        self.assertEqual(sender.ways.wait, wait)
        # Only once, and the clock began anew.
        self.assertEqual(sender.go(5), ("new", 4))
        self.assertEqual(sender.go(6), ("new", 5))
        for turn in range(7, 4 + wait):
            self.assertIsNone(sender.go(turn))
        self.assertEqual(sender.go(4 + wait), ("again", 0))

    def test_one_known_is_not_enough(self):
        sender = self.four()
        sender.heard(0, 16, (3,), 4)
        self.assertEqual(sender.go(4), ("new", 4))

    def test_base_itself_does_not_count(self):
        sender = self.four()
        sender.heard(0, 16, (2, 3), 4)
        self.assertEqual(sender.go(4), ("again", 0))
        sender.heard(2, 16, (), 5)
        # Known are base, which is 2, and 3 above it.
        self.assertEqual(sender.go(5), ("new", 4))

    def test_hurried_anew_where_base_grew(self):
        sender = made(8)
        sender.meter.known(9)
        sent(sender, 5, 0)
        sender.heard(0, 16, (2, 3), 4)
        self.assertEqual(sender.go(4), ("again", 0))
        sender.heard(1, 16, (1, 2), 5)
        self.assertEqual(sender.go(5), ("again", 1))
        self.assertEqual(sender.go(6), ("new", 5))

    def test_not_where_base_did_not_grow(self):
        sender = made(8)
        sender.meter.known(9)
        sent(sender, 5, 0)
        sender.heard(0, 16, (2, 3), 4)
        self.assertEqual(sender.go(4), ("again", 0))
        sender.heard(0, 16, (2, 3, 4), 5)
        self.assertEqual(sender.go(5), ("new", 5))

    def test_a_wait_that_ran_out_counts_as_hurried(self):
        sender = self.four()
        self.assertEqual(sender.go(5), ("again", 0))
        sender.heard(0, 16, (1, 2, 3), 6)
        self.assertEqual(sender.go(6), ("new", 4))

    def test_the_wait_comes_ahead_of_hurry(self):
        sender = self.four()
        sender.heard(0, 16, (1, 2), 4)
        wait = sender.ways.wait
        self.assertEqual(sender.go(5), ("again", 0))
        self.assertEqual((sender.meter.window, sender.ways.wait), (1, 2 * wait))

    def test_hurried_is_not_measured(self):
        sender = self.four()
        sender.heard(0, 16, (1, 2, 3), 4)
        smooth = sender.ways.smooth
        self.assertEqual(sender.go(4), ("again", 0))
        self.assertEqual(sender.heard(4, 16, (), 30), [0])
        self.assertEqual(sender.ways.smooth, smooth)


class New(unittest.TestCase):
    def test_below_the_edge_alone(self):
        sender = made(9)
        sender.meter.known(9)
        sender.heard(0, 3, (), 0)
        self.assertEqual([sender.go(0) for i in range(4)], [("new", 0), ("new", 1), ("new", 2), None])

    def test_edge_is_one_at_first(self):
        sender = made(9)
        self.assertEqual([sender.go(0) for i in range(2)], [("new", 0), None])

    def test_below_the_window_alone(self):
        sender = made(9)
        sender.heard(0, 16, (), 0)
        self.assertEqual([sender.go(0) for i in range(3)], [("new", 0), ("new", 1), None])
        sender = made(9, most=1)
        sender.heard(0, 16, (), 0)
        self.assertEqual([sender.go(0) for i in range(2)], [("new", 0), None])

    def test_what_is_known_is_not_under_way(self):
        sender = made(9)
        sender.heard(0, 16, (), 0)
        self.assertEqual([sender.go(0), sender.go(1)], [("new", 0), ("new", 1)])
        sender.heard(0, 16, (1,), 2)
        self.assertEqual((sender.under_way(), sender.meter.window), (1, 3))
        self.assertEqual([sender.go(2) for i in range(3)], [("new", 2), ("new", 3), None])

    def test_only_what_was_put(self):
        sender = made(1)
        sender.heard(0, 16, (), 0)
        self.assertEqual([sender.go(0), sender.go(0)], [("new", 0), None])
        sender.put(thing(1))
        self.assertEqual(sender.go(1), ("new", 1))


class Ask(unittest.TestCase):
    def full(self):
        sender = made(2)
        sender.go(0)
        sender.heard(1, 0, (), 2)
        self.assertEqual((stand(sender), sender.ways.wait), ((1, 1, 1), 6))
        return sender

    def test_asked_behind_waits_that_grow(self):
        sender = self.full()
        meter = (sender.meter.window, sender.meter.knee, sender.meter.counted)
        asked = [turn for turn in range(10, 150) if sender.go(turn) == ("ask", None)]
        self.assertEqual(asked, [16, 28, 52, 92, 132])
        self.assertEqual(sender.ways.wait, 40)
        self.assertEqual((sender.meter.window, sender.meter.knee, sender.meter.counted), meter)
        self.assertEqual(stand(sender), (1, 1, 1))

    def test_room_that_opens_lets_the_thing_go_and_sets_the_clock(self):
        sender = self.full()
        self.assertIsNone(sender.go(10))
        self.assertEqual(sender.heard(1, 2, (), 15), [])
        self.assertEqual(sender.go(15), ("new", 1))
        for turn in range(16, 21):
            self.assertIsNone(sender.go(turn))
        self.assertEqual(sender.go(21), ("again", 1))

    def test_nothing_is_asked_where_nothing_waits(self):
        sender = made(1)
        sender.go(0)
        sender.heard(1, 0, (), 2)
        for turn in range(2, 200):
            self.assertIsNone(sender.go(turn))

    def test_nothing_is_asked_while_something_is_under_way(self):
        sender = made(2)
        told = [sender.go(turn) for turn in range(30)]
        self.assertEqual([one for one in told if one is not None], [("new", 0)] + [("again", 0)] * 2)


class Whole(unittest.TestCase):
    def random_answer(self, draw, sender, honest):
        if honest:
            number = sender.base + draw.randint(0, sender.top - sender.base)
        else:
            number = draw.randrange(64)
        held = tuple(i for i in range(1, 16) if draw.random() < 0.2)
        return (number % sender.ring, draw.choice((0, 1, 2, 16)), held)

    def test_against_a_second_sender(self):
        draw = random.Random(69)
        words = {}
        for i in range(150):
            ring, first, most = draw.choice((64, 20, 5)), draw.randint(2, 6), draw.choice((1, 2, 5, 16))
            longest = first + draw.choice((0, 5, 30))
            sender, plain = Sender(ring, first, longest, most), Plain(ring, first, longest, most)
            turn, again = 0, []
            for step in range(150):
                turn += draw.choice((0, 1, 1, 1, 3))
                what = draw.random()
                before = stand(sender)
                if what < 0.25:
                    sender.put(thing(plain.put))
                    plain.put += 1
                elif what < 0.6:
                    told = sender.go(turn)
                    self.assertEqual(told, plain.go(turn))
                    words[told and told[0]] = True
                    if told is not None and told[0] == "again":
                        self.assertEqual(told[1], before[0])
                elif sender.top > sender.base or draw.random() < 0.3:
                    number, room, held = self.random_answer(draw, sender, draw.random() < 0.7)
                    number %= ring
                    self.assertEqual(sender.heard(number, room, held, turn), plain.heard(number, room, held, turn))
                right = (plain.base, plain.top, plain.edge, plain.ways.smooth, plain.ways.spread, plain.ways.wait)
                self.assertEqual(inner(sender), right + (plain.meter.window, plain.meter.knee, plain.meter.counted))
                self.assertEqual(sender.under_way(), plain.under_way())
                self.assertTrue(all(old <= new for old, new in zip(before, stand(sender))))
                self.assertTrue(sender.base <= sender.top <= sender.edge)
                self.assertTrue(sender.top <= sender.many() == plain.put)
        self.assertEqual(set(words), {None, "new", "again", "ask"})

    def test_each_place_is_measured_at_most_once_and_never_if_it_went_again(self):
        draw = random.Random(610)
        for i in range(60):
            sender = made(60, most=8)
            measures, again, expected = [], set(), 0
            sender.ways.measured = measures.append
            known = set()
            for turn in range(200):
                told = sender.go(turn)
                if told is not None and told[0] == "again":
                    again.add(told[1])
                if draw.random() < 0.4:
                    number, room, held = self.random_answer(draw, sender, True)
                    fresh = sender.heard(number, 16, held, turn)
                    self.assertEqual(fresh, sorted(set(fresh) - known))
                    known |= set(fresh)
                    expected += len([place for place in fresh if place not in again])
                    self.assertEqual(len(measures), expected)


if __name__ == "__main__":
    unittest.main()
