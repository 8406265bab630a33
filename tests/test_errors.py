"""Point 2 and the interface: the classes of refusals and their fields."""

import unittest

from fanweave import errors

PLAIN = ["NoWord", "NoAddress", "NoRedex", "NotDone", "NoBack", "NoMeeting", "NoKnot", "NoNumber", "NoNet", "NoLine"]
WITH_FIELDS = ["NoText", "TooLong", "NoName"]


class TestErrors(unittest.TestCase):
    def test_all_are_straight_under_spin_error(self):
        self.assertEqual(errors.SpinError.__bases__, (ValueError,))
        for word in PLAIN + WITH_FIELDS:
            with self.subTest(word):
                self.assertEqual(getattr(errors, word).__bases__, (errors.SpinError,))

    def test_all_are_defined_in_the_file(self):
        for word in ["SpinError"] + PLAIN + WITH_FIELDS:
            self.assertEqual(getattr(errors, word).__module__, "fanweave.errors")

    def test_one_class_is_not_caught_as_another(self):
        for one in PLAIN + WITH_FIELDS:
            for other in PLAIN + WITH_FIELDS:
                under = issubclass(getattr(errors, one), getattr(errors, other))
                self.assertEqual(under, one == other)

    def test_fields(self):
        self.assertEqual(errors.NoText(7).at, 7)
        self.assertEqual(errors.NoName("abc").word, "abc")
        by_turns = errors.TooLong(400)
        self.assertEqual((by_turns.turns, by_turns.moves), (400, None))
        by_moves = errors.TooLong(None, 8000)
        self.assertEqual((by_moves.turns, by_moves.moves), (None, 8000))


if __name__ == "__main__":
    unittest.main()
