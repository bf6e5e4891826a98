import unittest

from slowroad import errors
from slowroad.errors import (
    BadPair, BadRoad, BadTerms, BadText, BadTurn, BadWish, NoFrame, NoPiece, NoRow, NotNow, NotWide, RoadError, Spoilt,
)

REFUSALS = (
    NoFrame, Spoilt, NoPiece, BadRoad, BadPair, BadTurn, BadTerms, NotWide, BadText, NotNow, BadWish, NoRow,
)
PIECE = ("bare", 1, 0, 0, (), "")


class Errors(unittest.TestCase):
    def test_base_stands_right_under_value_error(self):
        self.assertEqual(RoadError.__bases__, (ValueError,))

    def test_each_refusal_stands_right_under_the_base(self):
        for refusal in REFUSALS:
            self.assertEqual(refusal.__bases__, (RoadError,), refusal)

    def test_none_stands_under_another_one(self):
        for one in REFUSALS:
            for other in REFUSALS:
                self.assertEqual(issubclass(one, other), one is other, (one, other))

    def test_every_refusal_of_the_module_is_among_these(self):
        found = [v for v in vars(errors).values() if isinstance(v, type) and issubclass(v, Exception)]
        self.assertEqual({e.__name__ for e in found}, {e.__name__ for e in REFUSALS} | {"RoadError"})

    def test_each_field_holds_what_it_was_made_with(self):
        made = (
            (NoFrame(-1), "frame", -1),
            (NoFrame("01"), "frame", "01"),
            (Spoilt(2 ** 73), "frame", 2 ** 73),
            (NoPiece(PIECE), "what", PIECE),
            (NoPiece(7), "what", 7),
            (BadRoad(None), "at", None),
            (BadRoad(0), "at", 0),
            (BadTurn(12), "turn", 12),
            (NotWide(33), "least", 33),
            (NotNow("shut", "end"), "state", "shut"),
            (NotNow("shut", "end"), "wish", "end"),
            (BadWish(60), "at", 60),
            (NoRow(3), "at", 3),
        )
        for error, field, value in made:
            self.assertEqual(getattr(error, field), value, (error, field))

    def test_those_without_fields_are_made_of_nothing(self):
        for refusal in (BadPair, BadTerms, BadText):
            with self.assertRaises(RoadError):
                raise refusal()

    def test_each_is_raised_and_taken_by_name(self):
        with self.assertRaises(NotNow) as taken:
            raise NotNow("open", "begin")
        self.assertEqual((taken.exception.state, taken.exception.wish), ("open", "begin"))
        with self.assertRaises(ValueError):
            raise NoRow(0)


if __name__ == "__main__":
    unittest.main()
