import random
import unittest
from fractions import Fraction
from math import ceil, gcd

from slowroad.ways import Ways


def stand(ways):
    return (ways.smooth, ways.spread, ways.wait)


class Reckoned:
    """The same with Python's own fractions."""

    def __init__(self, first, longest):
        self.longest, self.smooth, self.spread, self.wait = longest, None, None, first

    def measured(self, m):
        if self.smooth is None:
            self.smooth, self.spread = Fraction(m), Fraction(m, 2)
        else:
            self.spread = (3 * self.spread + abs(self.smooth - m)) / 4
            self.smooth = (3 * self.smooth + m) / 4
        least = ceil(self.smooth + 4 * self.spread)
        self.wait = 2 if least < 2 else self.longest if least > self.longest else least

    def stand(self):
        if self.smooth is None:
            return (None, None, self.wait)
        pairs = [(part.numerator, part.denominator) for part in (self.smooth, self.spread)]
        return (pairs[0], pairs[1], self.wait)


class Measured(unittest.TestCase):
    def test_at_first(self):
        for first, longest in ((2, 2), (2, 60), (5, 60), (64, 64), (10 ** 6, 10 ** 6)):
            self.assertEqual(stand(Ways(first, longest)), (None, None, first))

    def test_the_example(self):
        ways = Ways(5, 60)
        self.assertIsNone(ways.measured(4))
        self.assertEqual(stand(ways), ((4, 1), (2, 1), 12))
        self.assertIsNone(ways.measured(7))
        self.assertEqual(stand(ways), ((19, 4), (9, 4), 14))

    def test_first_measure(self):
        for m, spread, wait in ((0, (0, 1), 2), (1, (1, 2), 3), (2, (1, 1), 6), (3, (3, 2), 9),
                (10 ** 6, (500000, 1), 900)):
            ways = Ways(4, 900)
            ways.measured(m)
            self.assertEqual(stand(ways), ((m, 1), spread, wait))

    def test_nought_is_told_so(self):
        ways = Ways(4, 9)
        for i in range(5):
            ways.measured(0)
            self.assertEqual(stand(ways), ((0, 1), (0, 1), 2))

    def test_rounded_up_and_only_where_it_is_not_whole(self):
        ways = Ways(5, 60)
        ways.measured(4)
        ways.measured(4)
        self.assertEqual(stand(ways), ((4, 1), (3, 2), 10))
        ways.measured(4)
        self.assertEqual(stand(ways), ((4, 1), (9, 8), 9))
        ways.measured(4)
        self.assertEqual(stand(ways), ((4, 1), (27, 32), 8))

    def test_below_smooth_and_above_it(self):
        ways = Ways(5, 1000)
        ways.measured(8)
        ways.measured(0)
        self.assertEqual(stand(ways), ((6, 1), (5, 1), 26))
        ways.measured(14)
        self.assertEqual(stand(ways), ((8, 1), (23, 4), 31))

    def test_longest(self):
        for longest, wait in ((11, 11), (12, 12), (13, 12)):
            ways = Ways(2, longest)
            ways.measured(4)
            self.assertEqual(ways.wait, wait)

    def test_least(self):
        ways = Ways(9, 60)
        ways.measured(0)
        self.assertEqual(ways.wait, 2)
        for i in range(40):
            ways.measured(1)
        self.assertEqual(ways.wait, 2)
        self.assertTrue(ways.smooth[0] < ways.smooth[1])

    def test_long_rows_exactly(self):
        draw = random.Random(53)
        for most, many in ((3, 300), (64, 300), (10 ** 6, 300), (100, 2000)):
            ways, reckoned = Ways(3, 10 ** 6), Reckoned(3, 10 ** 6)
            for i in range(many):
                m = draw.randint(0, most)
                ways.measured(m)
                reckoned.measured(m)
                if i % 50 < 20:
                    self.assertEqual(stand(ways), reckoned.stand())
            self.assertEqual(stand(ways), reckoned.stand())

    def test_lowest_terms(self):
        draw = random.Random(51)
        for i in range(100):
            ways = Ways(3, 99)
            for j in range(draw.randint(1, 12)):
                ways.measured(draw.choice((0, 1, 2, 4, 8, 64, draw.randint(0, 99))))
                for top, bottom in (ways.smooth, ways.spread):
                    self.assertTrue(bottom >= 1)
                    self.assertEqual(gcd(top, bottom), 1)

    def test_what_was_told_stays(self):
        ways = Ways(5, 60)
        ways.measured(4)
        told = stand(ways)
        ways.measured(7)
        ways.ran_out()
        self.assertEqual(told, ((4, 1), (2, 1), 12))


class RanOut(unittest.TestCase):
    def test_doubled_but_never_more_than_longest(self):
        ways = Ways(5, 60)
        waits = []
        for i in range(6):
            self.assertIsNone(ways.ran_out())
            waits.append(ways.wait)
        self.assertEqual(waits, [10, 20, 40, 60, 60, 60])
        self.assertEqual((ways.smooth, ways.spread), (None, None))

    def test_first_is_longest(self):
        ways = Ways(7, 7)
        ways.ran_out()
        self.assertEqual(ways.wait, 7)

    def test_just_the_longest(self):
        for longest, wait in ((9, 9), (10, 10), (11, 10)):
            ways = Ways(5, longest)
            ways.ran_out()
            self.assertEqual(ways.wait, wait)

    def test_smooth_and_spread_stay_and_the_next_measure_sets_the_wait(self):
        ways = Ways(5, 60)
        ways.measured(4)
        ways.ran_out()
        self.assertEqual(stand(ways), ((4, 1), (2, 1), 24))
        ways.ran_out()
        ways.ran_out()
        self.assertEqual(stand(ways), ((4, 1), (2, 1), 60))
        ways.measured(7)
        self.assertEqual(stand(ways), ((19, 4), (9, 4), 14))

    def test_ahead_of_the_first_measure(self):
        ways = Ways(5, 60)
        ways.ran_out()
        ways.measured(4)
        self.assertEqual(stand(ways), ((4, 1), (2, 1), 12))

    def test_two_ways_know_nothing_of_one_another(self):
        one, other = Ways(5, 60), Ways(5, 60)
        one.measured(4)
        one.ran_out()
        self.assertEqual(stand(other), (None, None, 5))


if __name__ == "__main__":
    unittest.main()
