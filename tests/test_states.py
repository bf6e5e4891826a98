import unittest

from slowroad.errors import NotNow
from slowroad.states import Calling, Closing, Leaving, Left, Open, Shut, State, Waiting

STATES = {
    "shut": Shut, "calling": Calling, "open": Open, "left": Left, "leaving": Leaving, "waiting": Waiting,
    "closing": Closing,
}
NEXT = {
    "wish_begin": {"shut": "calling"},
    "wish_end": {"calling": "leaving", "open": "leaving", "left": "closing"},
    "begun": {"shut": "open", "calling": "open"},
    "ended": {"open": "left", "leaving": "closing", "waiting": "shut"},
    "answered": {"leaving": "waiting", "closing": "shut"},
}


class States(unittest.TestCase):
    def test_names(self):
        for name, kind in STATES.items():
            self.assertEqual(kind().name(), name)

    def test_each_stands_right_under_state(self):
        for kind in STATES.values():
            self.assertEqual(kind.__bases__, (State,))
            for other in STATES.values():
                self.assertEqual(issubclass(kind, other), kind is other)

    def test_wishes(self):
        for wish, word in (("wish_begin", "begin"), ("wish_end", "end")):
            for name, kind in STATES.items():
                state = kind()
                if name in NEXT[wish]:
                    told = getattr(state, wish)()
                    self.assertIsInstance(told, STATES[NEXT[wish][name]])
                    self.assertEqual(told.name(), NEXT[wish][name])
                else:
                    with self.assertRaises(NotNow) as taken:
                        getattr(state, wish)()
                    self.assertEqual((taken.exception.state, taken.exception.wish), (name, word))
                self.assertEqual(state.name(), name)

    def test_what_comes_from_the_other_hand(self):
        for question in ("begun", "ended", "answered"):
            for name, kind in STATES.items():
                state = kind()
                told = getattr(state, question)()
                right = NEXT[question].get(name, name)
                self.assertIsInstance(told, STATES[right], (question, name))
                self.assertEqual((told.name(), state.name()), (right, name))

    def test_may_put(self):
        for name, kind in STATES.items():
            self.assertIs(kind().may_put(), name in ("calling", "open", "left"))

    def test_no_state_ever_changes(self):
        for name, kind in STATES.items():
            state = kind()
            for i in range(2):
                for question in ("wish_begin", "wish_end", "may_put", "begun", "ended", "answered", "name"):
                    try:
                        getattr(state, question)()
                    except NotNow:
                        pass
                    self.assertEqual(state.name(), name)
                    self.assertIs(state.may_put(), name in ("calling", "open", "left"))
                    self.assertEqual(state.begun().name(), NEXT["begun"].get(name, name))
                    self.assertEqual(state.ended().name(), NEXT["ended"].get(name, name))
                    self.assertEqual(state.answered().name(), NEXT["answered"].get(name, name))


if __name__ == "__main__":
    unittest.main()
