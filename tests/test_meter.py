import random
import unittest

from slowroad.meter import Meter


def stand(meter):
    return (meter.window, meter.knee, meter.counted)


class Counted(unittest.TestCase):
    def stands(self, meter, many):
        told = []
        for i in range(many):
            self.assertIsNone(meter.known(1))
            told.append(stand(meter))
        return told

    def test_at_first(self):
        for most, right in ((1, (1, 1, 0)), (2, (2, 2, 0)), (3, (2, 3, 0)), (16, (2, 16, 0)), (1000, (2, 1000, 0))):
            self.assertEqual(stand(Meter(most)), right)

    def test_below_the_knee(self):
        self.assertEqual(self.stands(Meter(5), 4), [(3, 5, 0), (4, 5, 0), (5, 5, 0), (5, 5, 0)])

    def test_nothing_is_known(self):
        meter = Meter(9)
        self.assertIsNone(meter.known(0))
        self.assertEqual(stand(meter), (2, 9, 0))

    def test_most_is_not_passed(self):
        for most in (1, 2, 3):
            meter = Meter(most)
            meter.known(60)
            self.assertEqual(stand(meter), (most, most, 0))
            meter.known(60)
            self.assertEqual(stand(meter), (most, most, 0))

    def test_behind_the_knee(self):
        meter = Meter(9)
        meter.known(2)
        meter.ran_out()
        self.assertEqual(stand(meter), (1, 2, 0))
        right = [(2, 2, 0), (2, 2, 1), (3, 2, 0), (3, 2, 1), (3, 2, 2), (4, 2, 0), (4, 2, 1), (4, 2, 2), (4, 2, 3),
            (5, 2, 0)]
        self.assertEqual(self.stands(meter, 10), right)

    def test_window_of_one_at_a_knee_of_one(self):
        meter = Meter(9)
        meter.ran_out()
        meter.ran_out()
        self.assertEqual(stand(meter), (1, 1, 0))
        self.assertEqual(self.stands(meter, 4), [(2, 1, 0), (2, 1, 1), (3, 1, 0), (3, 1, 1)])

    def test_many_at_once_is_one_by_one(self):
        for many in (0, 1, 2, 7, 30, 60):
            one, other = Meter(20), Meter(20)
            for meter in (one, other):
                meter.known(9)
                meter.hurried()
            one.known(many)
            self.stands(other, many)
            self.assertEqual(stand(one), stand(other))

    def test_most_is_reached_by_counting(self):
        meter = Meter(4)
        meter.known(2)
        meter.hurried()
        self.assertEqual(self.stands(meter, 6), [(2, 2, 1), (3, 2, 0), (3, 2, 1), (3, 2, 2), (4, 2, 0), (4, 2, 0)])


class Fallen(unittest.TestCase):
    def at(self, window):
        meter = Meter(40)
        meter.known(window - 2)
        self.assertEqual(meter.window, window)
        return meter

    def test_ran_out(self):
        for window, knee in ((2, 1), (3, 1), (4, 2), (5, 2), (9, 4), (40, 20)):
            meter = self.at(window)
            self.assertIsNone(meter.ran_out())
            self.assertEqual(stand(meter), (1, knee, 0))

    def test_hurried(self):
        for window, knee in ((2, 1), (3, 1), (4, 2), (5, 2), (9, 4), (40, 20)):
            meter = self.at(window)
            self.assertIsNone(meter.hurried())
            self.assertEqual(stand(meter), (knee, knee, 0))

    def test_half_of_one_is_one(self):
        for most in (1, 7):
            meter = Meter(most)
            meter.ran_out()
            self.assertEqual(stand(meter), (1, 1, 0))
            meter.ran_out()
            self.assertEqual(stand(meter), (1, 1, 0))
            meter.hurried()
            self.assertEqual(stand(meter), (1, 1, 0))

    def test_the_count_begins_anew(self):
        for fall in ("ran_out", "hurried"):
            meter = self.at(8)
            meter.hurried()
            meter.known(3)
            self.assertEqual(stand(meter), (4, 4, 3))
            getattr(meter, fall)()
            self.assertEqual(stand(meter), (1, 2, 0) if fall == "ran_out" else (2, 2, 0))

    def test_bounds(self):
        draw = random.Random(57)
        for i in range(300):
            most = draw.choice((1, 2, 3, 16, 1000))
            meter = Meter(most)
            for j in range(60):
                what = draw.randrange(8)
                if what == 0:
                    meter.ran_out()
                elif what == 1:
                    meter.hurried()
                else:
                    meter.known(draw.choice((0, 1, 2, 16, 60)))
                self.assertTrue(1 <= meter.window <= most)
                self.assertTrue(1 <= meter.knee <= most)
                self.assertTrue(0 <= meter.counted < meter.window)


if __name__ == "__main__":
    unittest.main()
