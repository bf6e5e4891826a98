import random
import unittest

from slowroad.errors import BadRoad
from slowroad.roads import Road, fairness, rule

EXAMPLE = [[(3, 0, 0)], [(1, 4, 5), (2, 0, 0)]]


def random_deed(draw, lag):
    many = draw.randrange(4)
    return [(draw.randint(1, lag), draw.randrange(67), draw.choice((0, 0, draw.randrange(256)))) for i in range(many)]


def random_deeds(draw, lag):
    return [random_deed(draw, lag) for i in range(draw.randrange(8))]


class Rule(unittest.TestCase):
    def test_round_and_round(self):
        deeds = [[], [(2, 0, 0)], [(1, 3, 5), (60, 66, 255), (1, 3, 5)]]
        deed_of = rule(deeds)
        for sending in list(range(20)) + [10 ** 9, 10 ** 30]:
            self.assertEqual(deed_of(sending), deeds[sending % 3])

    def test_row_without_deeds(self):
        deed_of = rule([])
        for sending in (0, 1, 7, 10 ** 9):
            self.assertEqual(deed_of(sending), [(1, 0, 0)])

    def test_one_deed(self):
        self.assertEqual([rule([[]])(sending) for sending in range(3)], [[], [], []])

    def test_sixty_deeds(self):
        deeds = [[(at + 1, 0, 0)] for at in range(60)]
        self.assertEqual([rule(deeds)(sending) for sending in range(120)], deeds + deeds)

    def test_told_as_new_lists(self):
        for deeds in ([], [[(2, 0, 0)]], [[]]):
            deed_of = rule(deeds)
            told = deed_of(0)
            right = list(told)
            self.assertIs(type(told), list)
            self.assertIsNot(told, deed_of(0))
            told.append((9, 9, 9))
            told[0] = (8, 8, 8)
            self.assertEqual(deed_of(0), right)
            self.assertEqual(deed_of(len(deeds)), right)

    def test_list_handed_in_may_change_behind(self):
        deeds = [[(1, 0, 0)], []]
        deed_of = rule(deeds)
        deeds[0].append((2, 0, 0))
        deeds[1] = [(3, 0, 0)]
        deeds.append([(4, 0, 0)])
        self.assertEqual([deed_of(sending) for sending in range(4)], [[(1, 0, 0)], [], [(1, 0, 0)], []])
        empty = []
        deed_of = rule(empty)
        empty.append([])
        self.assertEqual(deed_of(0), [(1, 0, 0)])

    def test_list_handed_in_stays(self):
        deeds = [[(1, 0, 0)], []]
        rule(deeds)(0).append(1)
        fairness(deeds)
        self.assertEqual(deeds, [[(1, 0, 0)], []])


class Fairness(unittest.TestCase):
    def by_search(self, deeds):
        deed_of = rule(deeds)
        whole = [any(copy[2] == 0 for copy in deed_of(sending)) for sending in range(3 * len(deeds) + 3)]
        for least in range(1, len(deeds) + 1):
            if all(any(whole[at:at + least]) for at in range(len(deeds))):
                return least
        return None

    def test_the_example(self):
        self.assertEqual(fairness([[], [(2, 0, 0)], [(1, 3, 5)]]), 3)

    def test_row_without_deeds(self):
        self.assertEqual(fairness([]), 1)

    def test_row_without_a_whole_copy(self):
        for deeds in ([[]], [[], []], [[(1, 0, 1)]], [[(1, 0, 1), (60, 66, 255)], [], [(2, 1, 7)] * 3]):
            self.assertIsNone(fairness(deeds))

    def test_all_whole(self):
        self.assertEqual(fairness([[(1, 0, 0)]]), 1)
        self.assertEqual(fairness([[(1, 0, 0)], [(60, 66, 0)], [(1, 0, 9), (2, 0, 0)]]), 1)

    def test_place_says_nothing_of_a_whole_one(self):
        self.assertEqual(fairness([[(1, 66, 0)], []]), 2)

    def test_longest_gap_inside_and_round_the_end(self):
        whole, lost = [(1, 0, 0)], []
        self.assertEqual(fairness([whole, lost, lost, lost, whole, lost]), 4)
        self.assertEqual(fairness([lost, lost, whole, lost, whole, lost, lost]), 5)
        self.assertEqual(fairness([lost] * 59 + [whole]), 60)
        self.assertEqual(fairness([whole] + [lost] * 59), 60)

    def test_against_a_search(self):
        draw = random.Random(36)
        for i in range(500):
            deeds = [draw.choice(([], [(1, 0, 3)], [(4, 0, 3), (2, 9, 0)])) for j in range(draw.randint(1, 9))]
            self.assertEqual(fairness(deeds), self.by_search(deeds), deeds)


class Refused(unittest.TestCase):
    def refuses(self, deeds, lag, at):
        with self.assertRaises(BadRoad) as taken:
            Road(deeds, lag)
        self.assertEqual(taken.exception.at, at)

    def test_lag(self):
        for lag in (0, -1, 61, 1000, -60):
            self.refuses([], lag, None)
            self.refuses([[(1, 0, 0)]], lag, None)
        for lag in (1, 60):
            Road([], lag)

    def test_count_of_deeds(self):
        Road([[]] * 60, 1)
        self.refuses([[]] * 61, 1, None)
        self.refuses([[]] * 200, 60, None)

    def test_lag_and_count_come_first(self):
        self.refuses([[(0, 0, 0)]], 0, None)
        self.refuses([[(0, 0, 0)]] * 61, 5, None)

    def test_each_part_of_a_copy(self):
        for copy in ((0, 0, 0), (-1, 0, 0), (6, 0, 0), (1, -1, 0), (1, 67, 0), (1, 0, -1), (1, 0, 256)):
            self.refuses([[copy]], 5, 0)
            self.refuses([[], [(1, 0, 0), copy]], 5, 1)
            self.refuses([[(1, 0, 0), (2, 0, 0), copy]], 5, 0)
            self.refuses([[copy, (1, 0, 0)]], 5, 0)
        for copy in ((1, 0, 0), (5, 0, 0), (1, 66, 0), (1, 66, 255), (5, 0, 255), (1, 0, 1)):
            Road([[copy]], 5)

    def test_what_is_no_tuple_of_three_whole_numbers(self):
        for copy in ((), (1, 0), (1, 0, 0, 0), [1, 0, 0], (1, 0, None), ("1", 0, 0), (True, 0, 0), (1, False, 0)):
            self.refuses([[], [copy]], 5, 1)

    def test_delay_is_held_to_this_roads_lag(self):
        self.refuses([[(2, 0, 0)]], 1, 0)
        self.refuses([[(60, 0, 0)]], 59, 0)
        self.refuses([[(61, 0, 0)]], 60, 0)
        Road([[(60, 0, 0)]], 60)

    def test_place_is_held_to_though_the_copy_is_whole(self):
        self.refuses([[(1, 67, 0)]], 3, 0)

    def test_four_copies(self):
        Road([[(1, 0, 0)] * 3], 1)
        self.refuses([[(1, 0, 0)] * 4], 1, 0)
        self.refuses([[], [(1, 0, 0)] * 3, [(1, 0, 0)] * 4], 1, 2)

    def test_the_first_such_deed(self):
        good, bad, four = [(1, 0, 0)], [(9, 0, 0)], [(1, 0, 0)] * 4
        self.refuses([good, four, bad], 3, 1)
        self.refuses([good, bad, four], 3, 1)
        self.refuses([good] * 59 + [bad], 3, 59)


class Comes(unittest.TestCase):
    def test_the_example(self):
        road = Road(EXAMPLE, 3)
        self.assertEqual(road.send(0, 7), 0)
        self.assertEqual(road.come(1), [])
        self.assertEqual(road.send(1, 9), 1)
        self.assertEqual(road.come(1), [])
        self.assertEqual(road.come(2), [(1, 89)])
        self.assertEqual(road.come(3), [(0, 7), (1, 9)])
        self.assertEqual(road.come(4), [])

    def test_sendings_are_numbered_from_nought(self):
        road = Road([[], [(1, 0, 0)]], 1)
        self.assertEqual([road.send(turn, 5) for turn in (0, 0, 1, 9, 9)], [0, 1, 2, 3, 4])

    def test_row_without_deeds_brings_all_in_the_next_turn(self):
        road = Road([], 60)
        for turn in range(5):
            self.assertEqual(road.come(turn), [] if turn == 0 else [(turn - 1, turn + 99)])
            road.send(turn, turn + 100)

    def test_a_copy_comes_at_its_turn_and_not_ahead(self):
        for delay in (1, 2, 59, 60):
            road = Road([[(delay, 0, 0)]], 60)
            road.send(3, 8)
            for turn in range(3, 3 + delay):
                self.assertEqual(road.come(turn), [])
            self.assertEqual(road.come(3 + delay), [(0, 8)])

    def test_first_asking_for_a_later_turn_tells_all_in_order(self):
        road = Road([[(5, 0, 0)], [(1, 0, 0), (5, 0, 1)], [(3, 0, 0)]], 5)
        for sending in range(3):
            road.send(0, 16)
        self.assertEqual(road.come(9), [(1, 16), (2, 16), (0, 16), (1, 17)])

    def test_order_of_turns_goes_ahead_of_sendings(self):
        road = Road([[(4, 0, 0)], [(1, 0, 0)]], 4)
        road.send(0, 1)
        road.send(1, 2)
        self.assertEqual(road.come(50), [(1, 2), (0, 1)])

    def test_order_of_sendings_goes_ahead_of_copies_and_frames(self):
        road = Road([[(2, 0, 0)], [(1, 0, 1), (1, 0, 2), (1, 0, 0)]], 4)
        road.send(0, 1000)
        road.send(1, 0)
        self.assertEqual(road.come(2), [(0, 1000), (1, 1), (1, 2), (1, 0)])

    def test_copies_of_one_turn_stand_as_the_deed_has_them(self):
        road = Road([[(2, 0, 7), (2, 0, 0), (2, 0, 3)]], 2)
        road.send(0, 0)
        self.assertEqual(road.come(2), [(0, 7), (0, 0), (0, 3)])

    def test_two_copies_that_are_alike_are_two(self):
        road = Road([[(1, 0, 0), (1, 0, 0)]], 1)
        road.send(0, 4)
        self.assertEqual(road.under_way(), 2)
        self.assertEqual(road.come(1), [(0, 4), (0, 4)])

    def test_each_copy_once(self):
        road = Road([[(1, 0, 0), (2, 0, 0)]], 2)
        road.send(0, 4)
        self.assertEqual(road.come(1), [(0, 4)])
        self.assertEqual(road.come(1), [])
        self.assertEqual(road.come(2), [(0, 4)])
        self.assertEqual(road.come(2), [])

    def test_whole_and_spoilt(self):
        frame = 2 ** 73 + 5
        road = Road([[(1, 66, 0), (1, 66, 255), (1, 0, 1)]], 1)
        road.send(0, frame)
        self.assertEqual(road.come(1), [(0, frame), (0, frame ^ (255 << 66)), (0, frame ^ 1)])

    def test_how_many_are_under_way(self):
        road = Road([[(1, 0, 0), (3, 0, 0)], [], [(2, 1, 1)]], 3)
        self.assertEqual(road.under_way(), 0)
        road.send(0, 1)
        self.assertEqual(road.under_way(), 2)
        road.send(0, 1)
        self.assertEqual(road.under_way(), 2)
        road.send(0, 1)
        self.assertEqual(road.under_way(), 3)
        road.come(0)
        self.assertEqual(road.under_way(), 3)
        road.come(1)
        self.assertEqual(road.under_way(), 2)
        road.come(3)
        self.assertEqual(road.under_way(), 0)

    def test_lists_are_each_ones_own(self):
        deeds = [[(1, 0, 0)]]
        road = Road(deeds, 2)
        deeds[0][0] = (2, 0, 9)
        deeds.append([])
        road.send(0, 4)
        road.send(0, 5)
        deeds[0].append((1, 0, 3))
        road.send(0, 6)
        told = road.come(1)
        self.assertIs(type(told), list)
        self.assertEqual(told, [(0, 4), (1, 5), (2, 6)])
        told.append((9, 9))
        self.assertEqual(road.come(1), [])
        self.assertEqual(told, [(0, 4), (1, 5), (2, 6), (9, 9)])
        self.assertEqual(deeds, [[(2, 0, 9), (1, 0, 3)], []])

    def test_two_roads_of_one_row(self):
        deeds = [[(1, 0, 0)], []]
        one, other = Road(deeds, 1), Road(deeds, 1)
        self.assertEqual((one.send(0, 1), one.send(0, 2), other.send(0, 3)), (0, 1, 0))
        self.assertEqual((one.come(1), other.come(1)), ([(0, 1)], [(0, 3)]))

    def test_against_a_list_of_all_that_comes(self):
        draw = random.Random(38)
        for i in range(200):
            lag = draw.choice((1, 2, 5, 60))
            deeds = random_deeds(draw, lag)
            deed_of = rule(deeds)
            road = Road(deeds, lag)
            expected, told, turn = [], [], 0
            for sending in range(30):
                turn += draw.choice((0, 1, 1, 4))
                told += road.come(turn)
                frame = draw.getrandbits(74)
                self.assertEqual(road.send(turn, frame), sending)
                for order, (delay, place, run) in enumerate(deed_of(sending)):
                    expected.append((turn + delay, sending, order, frame ^ (run << place)))
                self.assertEqual(road.under_way(), len(expected) - len(told))
            told += road.come(turn + lag)
            self.assertEqual(told, [(sending, frame) for when, sending, order, frame in sorted(expected)])


if __name__ == "__main__":
    unittest.main()
