"""Point [3]: each refusal is an error class of its own, straight under MeetError."""

import inspect
import unittest

from maymeet import errors
from maymeet.errors import MeetError, TooMany

PLAIN = [
    "NoMany", "NoRow", "NoBook", "NoGoing", "NoGap", "NoStep", "NoTable", "NoKinds", "NoFar", "NoPlace", "NoNumber",
    "Unlike", "NotOne", "NotLet", "NoLeaving", "NoText",
]


class Errors(unittest.TestCase):
    def test_meet_error_is_a_value_error(self):
        self.assertEqual(MeetError.__bases__, (ValueError,))

    def test_each_stands_straight_under_meet_error(self):
        for name in [*PLAIN, "TooMany"]:
            with self.subTest(name=name):
                error = getattr(errors, name)
                self.assertEqual(error.__name__, name)
                self.assertEqual(error.__bases__, (MeetError,))
                self.assertEqual(error.__module__, "maymeet.errors")

    def test_no_two_are_one(self):
        self.assertEqual(len({getattr(errors, name) for name in [*PLAIN, "TooMany"]}), 17)

    def test_no_other_class(self):
        told = [name for name, thing in vars(errors).items() if inspect.isclass(thing)]
        self.assertEqual(sorted(told), sorted([*PLAIN, "TooMany", "MeetError"]))

    def test_made_with_nothing(self):
        for name in PLAIN:
            with self.subTest(name=name):
                error = getattr(errors, name)
                with self.assertRaises(error):
                    raise error()
                with self.assertRaises(MeetError):
                    raise error()

    def test_too_many_tells_how_many(self):
        self.assertEqual(TooMany(7).many, 7)
        self.assertEqual(TooMany(1000).many, 1000)
        with self.assertRaises(MeetError):
            raise TooMany(9)


if __name__ == "__main__":
    unittest.main()
