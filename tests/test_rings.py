import unittest

from slowroad.rings import ahead, unrolled, unrolled_row, within

RINGS = (1, 2, 3, 16, 1000000000)
SIXTY = 10 ** 60 - 1


def numbers_about(ring):
    near = [-2 * ring, -ring - 1, -ring, -ring + 1, -13, -1, 0, 1, 3, 14]
    far = [ring - 1, ring, ring + 1, 2 * ring, 7 * ring + 5, SIXTY, SIXTY - 1, -SIXTY, -SIXTY + 1]
    return near + far


class Ahead(unittest.TestCase):
    def test_the_examples(self):
        self.assertEqual(ahead(16, 14, 3), 5)
        self.assertEqual(ahead(16, 3, 14), 11)
        for one in (3, 19, -13):
            self.assertEqual(ahead(16, one, 3), 0)

    def test_small_rings_against_a_search(self):
        for ring in (1, 2, 3, 5, 16):
            for one in range(-20, 21):
                for other in range(-20, 21):
                    least = 0
                    while (one + least) % ring != other % ring:
                        least += 1
                    self.assertEqual(ahead(ring, one, other), least, (ring, one, other))

    def test_answer_lies_in_the_ring_and_leads_to_the_other(self):
        for ring in RINGS:
            for one in numbers_about(ring):
                for other in numbers_about(ring):
                    steps = ahead(ring, one, other)
                    self.assertIs(type(steps), int)
                    self.assertTrue(0 <= steps <= ring - 1, (ring, one, other))
                    self.assertEqual((one + steps - other) % ring, 0, (ring, one, other))

    def test_of_a_number_and_itself(self):
        for ring in RINGS:
            for one in numbers_about(ring):
                self.assertEqual(ahead(ring, one, one), 0)

    def test_ring_of_one_has_nothing_ahead(self):
        self.assertEqual(ahead(1, -SIXTY, SIXTY), 0)

    def test_greatest_ring(self):
        ring = 1000000000
        self.assertEqual(ahead(ring, 0, -1), ring - 1)
        self.assertEqual(ahead(ring, 1, ring), ring - 1)
        self.assertEqual(ahead(ring, 0, ring), 0)
        self.assertEqual(ahead(ring, ring, ring + 1), 1)

    def test_sixty_figures_are_exact(self):
        self.assertEqual(ahead(1000000000, 0, SIXTY), 999999999)
        self.assertEqual(ahead(1000000000, SIXTY, 0), 1)
        self.assertEqual(ahead(16, 0, 10 ** 59 + 5), 5)
        self.assertEqual(ahead(16, 10 ** 59 + 5, 0), 11)
        self.assertEqual(ahead(7, -SIXTY, SIXTY), 2 * SIXTY % 7)


class Within(unittest.TestCase):
    def test_start_last_and_the_one_behind(self):
        self.assertIs(within(16, 14, 5, 14), True)
        self.assertIs(within(16, 14, 5, 2), True)
        self.assertIs(within(16, 14, 5, 3), False)
        self.assertIs(within(16, 14, 5, 13), False)

    def test_no_stretch_has_none(self):
        for many in (0, -1, -16, -SIXTY):
            for number in range(-20, 40):
                self.assertIs(within(16, 3, many, number), False)

    def test_stretch_of_one(self):
        for number in range(16):
            self.assertIs(within(16, 3, 1, number), number == 3)

    def test_ring_less_one_has_all_but_one(self):
        for number in range(16):
            self.assertIs(within(16, 3, 15, number), number != 2)

    def test_ring_or_more_has_all(self):
        for many in (16, 17, 1000, SIXTY):
            for number in range(-20, 40):
                self.assertIs(within(16, 3, many, number), True)

    def test_ring_added_or_taken_away_changes_nothing(self):
        for many in (-1, 0, 1, 5, 15, 16, 17):
            for number in range(16):
                told = within(16, 14, many, number)
                for times in (-3, -1, 1, 2, 10 ** 50):
                    self.assertIs(within(16, 14, many, number + 16 * times), told)
                    self.assertIs(within(16, 14 + 16 * times, many, number), told)

    def test_edges_in_all_rings(self):
        for ring in RINGS:
            for start in numbers_about(ring):
                for many in (1, ring - 1, ring):
                    self.assertIs(within(ring, start, many, start), many > 0)
                    self.assertIs(within(ring, start, many, start + many - 1), many > 0)
                    self.assertIs(within(ring, start, many, start + many), many >= ring)


class Unrolled(unittest.TestCase):
    def test_low_itself_one_above_and_the_last(self):
        for ring in RINGS:
            for low in numbers_about(ring):
                for step in (0, 1 % ring, ring - 1):
                    self.assertEqual(unrolled(ring, low, (low + step) % ring), low + step)

    def test_one_below_low_is_told_a_ring_later(self):
        self.assertEqual(unrolled(16, 20, 3), 35)
        self.assertEqual(unrolled(16, 20, 4), 20)
        self.assertEqual(unrolled(16, 20, 5), 21)

    def test_low_below_nought(self):
        self.assertEqual(unrolled(16, -5, 11), -5)
        self.assertEqual(unrolled(16, -5, 10), 10)
        self.assertEqual(unrolled(16, -5, 0), 0)

    def test_number_outside_the_ring_goes_by_its_remainder(self):
        self.assertEqual(unrolled(16, 20, -13), 35)
        self.assertEqual(unrolled(16, 20, 19), 35)
        self.assertEqual(unrolled(16, 20, 1000), 24)
        self.assertEqual(unrolled(16, 20, 10 ** 59), 32)

    def test_least_place_against_a_search(self):
        for ring in (1, 2, 5, 16):
            for low in range(-20, 21):
                for number in range(-20, 21):
                    place = low
                    while place % ring != number % ring:
                        place += 1
                    self.assertEqual(unrolled(ring, low, number), place)


class UnrolledRow(unittest.TestCase):
    def told_again(self, ring, low, places):
        self.assertEqual(unrolled_row(ring, low, [place % ring for place in places]), places)

    def test_rows_are_told_again_from_their_numbers(self):
        for ring in RINGS:
            for low in (-SIXTY // 2, -3 * ring - 1, -1, 0, 1, ring, 5 * ring + 2, SIXTY // 2):
                for begin in (0, ring - 1):
                    for step in (0, 1 % ring, ring - 1):
                        self.told_again(ring, low, [low + begin + step * i for i in range(40)])

    def test_row_of_changing_steps(self):
        places = []
        place = -50
        for i in range(300):
            place += (0, 1, 15, 7, 0, 0, 14)[i % 7]
            places.append(place)
        self.told_again(16, -50, places)
        self.told_again(16, -65, places)

    def test_each_from_the_one_told_ahead_of_it(self):
        self.assertEqual(unrolled_row(16, 20, [3, 3, 2, 4, 4]), [35, 35, 50, 52, 52])

    def test_numbers_outside_the_ring(self):
        self.assertEqual(unrolled_row(16, 0, [-1, 16, 33, -16]), [15, 16, 17, 32])

    def test_row_without_numbers(self):
        for ring in RINGS:
            self.assertEqual(unrolled_row(ring, -7, []), [])

    def test_list_handed_in_stays(self):
        numbers = [3, 1, 2]
        unrolled_row(4, 0, numbers)
        self.assertEqual(numbers, [3, 1, 2])

    def test_list_told_is_the_askers_own(self):
        numbers = [0, 1, 2]
        told = unrolled_row(16, 0, numbers)
        self.assertEqual(told, numbers)
        self.assertIsNot(told, numbers)
        self.assertIs(type(told), list)
        told.append(9)
        numbers[0] = 5
        self.assertEqual(told, [0, 1, 2, 9])
        self.assertEqual(unrolled_row(16, 0, [0, 1, 2]), [0, 1, 2])
        empty = unrolled_row(16, 0, [])
        empty.append(1)
        self.assertEqual(unrolled_row(16, 0, []), [])


if __name__ == "__main__":
    unittest.main()
