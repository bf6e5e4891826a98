import unittest

from slowroad.bounds import is_from


class IsFrom(unittest.TestCase):
    def test_at_the_bounds_and_beyond(self):
        for value, told in ((2, False), (3, True), (4, True), (5, True), (6, False), (-3, False)):
            self.assertIs(is_from(value, 3, 5), told, value)

    def test_what_is_no_whole_number(self):
        for value in (True, False, None, "1", 1.0, (1,), [1]):
            self.assertIs(is_from(value, 0, 9), False, value)


if __name__ == "__main__":
    unittest.main()
