"""The refusals."""

import unittest

from meetways import errors

NAMES = ("NoText", "NoMeeting", "NoNumber", "NoMoment", "NotFit", "NoRow")


class Errors(unittest.TestCase):
    def test_all_stand_straight_under_meet_error(self):
        self.assertEqual(errors.MeetError.__bases__, (ValueError,))
        for name in NAMES:
            self.assertEqual(getattr(errors, name).__bases__, (errors.MeetError,), name)

    def test_each_is_made_with_a_text(self):
        for name in NAMES + ("MeetError",):
            made = getattr(errors, name)("why")
            self.assertIsInstance(made, ValueError)
            self.assertEqual(str(made), "why")

    def test_none_is_caught_as_another(self):
        for one in NAMES:
            for other in NAMES:
                self.assertEqual(issubclass(getattr(errors, one), getattr(errors, other)), one == other)


if __name__ == "__main__":
    unittest.main()
