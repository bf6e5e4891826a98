import random
import unittest

from slowroad.errors import BadPair, BadTurn
from slowroad.fooling import need
from slowroad.pair import Pair


def stand(pair):
    return (pair.base, pair.top, pair.got)


class Game:
    """A second pair, with numbers worked out by a search, so that it has no step in common with the program's."""

    def __init__(self, ring, room, lag):
        self.ring, self.room, self.lag = ring, room, lag
        self.base = self.top = self.got = 0
        self.items, self.answers, self.filed = [], [], set()

    def ahead(self, start, number):
        return next(d for d in range(self.ring) if (start + d) % self.ring == number)

    def play(self, comings, answers, item):
        turn = len(self.items)
        for back in comings + answers:
            if back < 0 or not 1 <= turn - back <= self.lag:
                return None
        if any(self.items[coming] is None for coming in comings):
            return None
        base = self.base
        for answer in answers:
            d = self.ahead(base, self.answers[answer])
            if base + d <= self.top:
                base += d
        if item is not None and item not in [p for p in range(base, base + self.room) if p <= self.top]:
            return None
        told = []
        for coming in comings:
            d = self.ahead(self.got, self.items[coming] % self.ring)
            if d < self.room:
                self.filed.add(self.got + d)
                told.append(self.got + d)
            else:
                told.append(None)
            while self.got in self.filed:
                self.got += 1
        self.base = base
        self.items.append(item)
        if item == self.top:
            self.top += 1
        self.answers.append(self.got % self.ring)
        return told


class Made(unittest.TestCase):
    def test_at_each_bound(self):
        for ring, room, lag in ((2, 1, 1), (61, 60, 60), (1000000, 60, 60), (1000000, 1, 1), (3, 2, 60), (2, 1, 60)):
            pair = Pair(ring, room, lag)
            self.assertEqual(stand(pair), (0, 0, 0))

    def test_beyond_each_bound(self):
        wrong = (
            (5, 0, 1), (5, -1, 1), (100, 61, 1), (1000, 1000, 1),
            (1, 1, 1), (60, 60, 1), (2, 2, 5), (2, 3, 5), (0, 1, 1), (-5, 1, 1), (1000001, 1, 1),
            (5, 2, 0), (5, 2, -1), (5, 2, 61),
        )
        for ring, room, lag in wrong:
            with self.assertRaises(BadPair):
                Pair(ring, room, lag)


class Taker(unittest.TestCase):
    def test_in_order_ahead_of_a_gap_and_again(self):
        pair = Pair(8, 3, 5)
        self.assertEqual(pair.play([], [], 0), [])
        self.assertEqual(stand(pair), (0, 1, 0))
        self.assertEqual(pair.play([], [], 1), [])
        self.assertEqual(pair.play([], [], 2), [])
        self.assertEqual(pair.play([2], [], None), [2])
        self.assertEqual(stand(pair), (0, 3, 0))
        self.assertEqual(pair.play([1, 1, 2], [], None), [1, 1, 2])
        self.assertEqual(stand(pair), (0, 3, 0))
        self.assertEqual(pair.play([0], [], None), [0])
        self.assertEqual(stand(pair), (0, 3, 3))

    def test_what_is_not_taken_is_told_as_none(self):
        pair = Pair(8, 2, 5)
        pair.play([], [], 0)
        self.assertEqual(pair.play([0, 0], [], 1), [0, None])
        self.assertEqual(pair.play([1, 0, 1], [], None), [1, None, None])
        self.assertEqual(pair.got, 2)

    def test_each_coming_behind_the_ones_listed_ahead_of_it(self):
        pair = Pair(20, 2, 5)
        pair.play([], [], 0)
        pair.play([], [], 1)
        self.assertEqual(pair.play([1, 0, 0, 1], [], None), [1, 0, None, None])
        self.assertEqual(pair.got, 2)

    def test_edge_of_the_room(self):
        # In a ring of 5 place 0 is 3 ahead of got 2: one too far for a room of 3, and just near enough for one of 4.
        for room, told in ((3, None), (4, 5)):
            pair = Pair(5, room, 3)
            pair.play([], [], 0)
            pair.play([0], [], 1)
            pair.play([1], [], 0)
            self.assertEqual(pair.play([2], [], None), [told])

    def test_a_place_where_one_is_filed_is_told_again(self):
        pair = Pair(4, 3, 2)
        pair.play([], [], 0)
        pair.play([0], [], 1)
        pair.play([1], [], 2)
        # Number 2, 1 and 0 again, got 2.
        self.assertEqual(pair.play([], [], 0), [])
        self.assertEqual(pair.play([3, 3], [], None), [4, 4])
        self.assertEqual(stand(pair), (0, 3, 2))


class Sender(unittest.TestCase):
    def test_base_grows_by_an_answer(self):
        pair = Pair(9, 3, 4)
        pair.play([], [], 0)
        pair.play([0], [], 1)
        pair.play([1], [1], None)
        self.assertEqual(stand(pair), (1, 2, 2))
        pair.play([], [2], None)
        self.assertEqual(stand(pair), (2, 2, 2))

    def test_an_older_answer_does_nothing(self):
        pair = Pair(9, 3, 4)
        pair.play([], [], 0)
        pair.play([0], [], 1)
        pair.play([1], [], None)
        pair.play([], [2, 1, 0, 2], None)
        self.assertEqual(stand(pair), (2, 2, 2))
        pair.play([], [1], None)
        self.assertEqual(stand(pair), (2, 2, 2))

    def test_an_old_answer_looks_new_in_a_narrow_ring(self):
        def played(answers):
            pair = Pair(3, 2, 5)
            pair.play([], [], 0)
            pair.play([0], [0], 1)
            pair.play([1], [1], 2)
            pair.play([2], answers, None)
            return pair.base
        self.assertEqual(played([]), 1)
        self.assertEqual(played([2]), 2)
        self.assertEqual(played([0]), 3)
        self.assertEqual(played([2, 0]), 3)

    def test_an_answer_up_to_top_and_not_beyond(self):
        pair = Pair(10, 5, 9)
        for place in range(4):
            pair.play([], [], place)
        pair.play([0, 1, 2, 3], [], None)
        pair.play([], [4], None)
        self.assertEqual(stand(pair), (4, 4, 4))

    def test_what_may_be_sent(self):
        pair = Pair(20, 3, 9)
        for item in (0, 0, 1, 0, 2, 1, 2):
            pair.play([], [], item)
        self.assertEqual(stand(pair), (0, 3, 0))
        for item in (-1, 3, 4, 20):
            with self.assertRaises(BadTurn):
                pair.play([], [], item)
        pair.play([0], [], None)
        pair.play([], [7], 3)
        self.assertEqual(stand(pair), (1, 4, 1))
        with self.assertRaises(BadTurn):
            pair.play([], [], 0)
        with self.assertRaises(BadTurn):
            pair.play([], [], 4)

    def test_sending_comes_behind_the_answers(self):
        pair = Pair(20, 1, 9)
        pair.play([], [], 0)
        pair.play([0], [], None)
        with self.assertRaises(BadTurn):
            pair.play([], [1], 0)
        with self.assertRaises(BadTurn):
            pair.play([], [], 1)
        pair.play([], [1], 1)
        self.assertEqual(stand(pair), (1, 2, 1))

    def test_no_place_above_top(self):
        pair = Pair(20, 3, 9)
        for item in (1, 2):
            with self.assertRaises(BadTurn):
                pair.play([], [], item)
        pair.play([], [], 0)
        with self.assertRaises(BadTurn):
            pair.play([], [], 2)

    def test_the_answer_is_told_behind_the_comings_of_its_turn(self):
        pair = Pair(20, 3, 9)
        pair.play([], [], 0)
        pair.play([0], [], None)
        pair.play([], [1], None)
        self.assertEqual(pair.base, 1)


class Refused(unittest.TestCase):
    def made(self):
        pair = Pair(12, 3, 3)
        pair.play([], [], 0)
        pair.play([0], [], None)
        pair.play([], [1], 1)
        pair.play([], [], 2)
        pair.play([2], [], None)
        return pair

    def refuses(self, comings, answers, item):
        pair = self.made()
        before = stand(pair)
        handed = (list(comings), list(answers))
        for i in range(2):
            with self.assertRaises(BadTurn) as taken:
                pair.play(comings, answers, item)
            self.assertEqual(taken.exception.turn, 5)
            self.assertEqual(stand(pair), before)
        self.assertEqual((comings, answers), handed)
        # Nothing was filed, answered, sent or counted: it goes on as one that was never asked.
        other = self.made()
        for turn in (([3], [4], 2), ([3], [3, 4], 3), ([6, 5], [5, 6], 3), ([6], [7], None)):
            self.assertEqual(pair.play(*turn), other.play(*turn))
            self.assertEqual(stand(pair), stand(other))

    def test_comings_that_are_none(self):
        for coming in (-1, 0, 1, 4, 5, 6, 100):
            self.refuses([coming], [], None)
            self.refuses([3, coming], [4], 2)
            self.refuses([coming, 3], [], None)

    def test_answers_that_are_none(self):
        for answer in (-1, 0, 1, 5, 6, 100):
            self.refuses([], [answer], None)
            self.refuses([3], [4, answer], 2)
            self.refuses([3], [answer, 4], 2)

    def test_places_that_may_not_be_sent(self):
        for item in (-1, 0, 4, 5, 13):
            self.refuses([3], [], item)
        self.refuses([3], [4], 1)
        self.refuses([3], [4], 5)

    def test_what_lies_just_far_enough(self):
        pair = self.made()
        self.assertEqual(pair.play([2, 3], [2, 3, 4], 3), [None, 2])
        self.assertEqual(stand(pair), (2, 4, 3))

    def test_at_first_nothing_has_gone(self):
        for comings, answers, item in (([0], [], None), ([-1], [], None), ([], [0], None), ([], [-1], None),
                ([], [], 1)):
            pair = Pair(12, 3, 3)
            with self.assertRaises(BadTurn) as taken:
                pair.play(comings, answers, item)
            self.assertEqual(taken.exception.turn, 0)

    def test_a_turn_without_a_sending_does_not_come(self):
        pair = Pair(12, 3, 3)
        pair.play([], [], None)
        with self.assertRaises(BadTurn) as taken:
            pair.play([0], [], None)
        self.assertEqual(taken.exception.turn, 1)


class Whole(unittest.TestCase):
    def test_the_example(self):
        pair = Pair(3, 2, 1)
        self.assertEqual(pair.play([], [], 0), [])
        self.assertEqual(pair.play([0], [], 1), [0])
        self.assertEqual(pair.play([1], [], 0), [1])
        self.assertEqual(pair.play([2], [], None), [3])

    def test_lists_are_each_ones_own(self):
        pair = Pair(9, 3, 5)
        pair.play([], [], 0)
        comings, answers = [0, 0], [0]
        told = pair.play(comings, answers, 1)
        self.assertEqual((comings, answers), ([0, 0], [0]))
        self.assertEqual(told, [0, None])
        comings.append(7)
        answers.append(7)
        told.append(7)
        self.assertEqual(pair.play([1], [1], None), [1])
        self.assertEqual(told, [0, None, 7])

    def random_turn(self, draw, turn, pair, lag, room):
        back = range(turn - lag - 1, turn + 1) if draw.random() < 0.1 else range(max(0, turn - lag), turn)
        comings = [draw.choice(back) for i in range(draw.randrange(4)) if back]
        answers = [draw.choice(back) for i in range(draw.randrange(3)) if back]
        item = draw.choice((None, pair.base, pair.top, draw.randint(pair.base - 1, pair.base + room + 1)))
        return comings, answers, item

    def test_against_a_second_pair(self):
        draw = random.Random(43)
        refused = 0
        for i in range(150):
            room, lag = draw.randint(1, 5), draw.randint(1, 6)
            ring = draw.randint(room + 1, need(room, lag) + 2)
            pair, game = Pair(ring, room, lag), Game(ring, room, lag)
            for step in range(60):
                turn = self.random_turn(draw, len(game.items), pair, lag, room)
                expected = game.play(*turn)
                if expected is None:
                    refused += 1
                    with self.assertRaises(BadTurn) as taken:
                        pair.play(*turn)
                    self.assertEqual(taken.exception.turn, len(game.items))
                else:
                    self.assertEqual(pair.play(*turn), expected)
                self.assertEqual(stand(pair), (game.base, game.top, game.got))
        self.assertTrue(1000 < refused < 8000)

    def test_a_ring_of_the_need_is_never_fooled(self):
        draw = random.Random(46)
        for i in range(200):
            room, lag = draw.choice((1, 1, 2, 2, 3, 5)), draw.randint(1, 7)
            pair = Pair(need(room, lag) + draw.choice((0, 0, 1)), room, lag)
            items = []
            for turn in range(120):
                back = range(max(0, turn - lag), turn)
                sent = [t for t in back if items[t] is not None]
                # The oldest ones, and many comings at once, are what fools a smaller ring.
                likely = [sent[0], sent[-1], draw.choice(sent)] if sent else []
                comings = [draw.choice(likely) for j in range(draw.randrange(5)) if likely]
                answers = [draw.choice((back[-1], draw.choice(back))) for j in range(draw.choice((0, 1, 3))) if back]
                item = draw.choice((pair.base, pair.top))
                try:
                    told = pair.play(comings, answers, item)
                except BadTurn:
                    item = None
                    told = pair.play(comings, answers, item)
                items.append(item)
                for coming, place in zip(comings, told):
                    self.assertIn(place, (None, items[coming]))
                self.assertLessEqual(pair.base, pair.got)


if __name__ == "__main__":
    unittest.main()
