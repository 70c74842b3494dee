"""The classes of beadway.errors."""

import inspect
import unittest

from beadway import errors

NAMES = ["BadShare", "BadRow", "BadBead", "BadWeight", "BadMoment", "BadKind", "BadEvents", "BadText", "Unlike",
         "Together", "Crowded", "TooMany", "TooFar"]


class ErrorsTest(unittest.TestCase):
    def test_bead_error_is_a_value_error(self):
        self.assertEqual(errors.BeadError.__bases__, (ValueError,))

    def test_thirteen_classes_straight_under_it(self):
        self.assertEqual(len(NAMES), 13)
        for name in NAMES:
            with self.subTest(name):
                kind = getattr(errors, name)
                self.assertEqual(kind.__name__, name)
                self.assertEqual(kind.__bases__, (errors.BeadError,))

    def test_each_is_raised_and_caught(self):
        for name in NAMES:
            with self.subTest(name), self.assertRaises(errors.BeadError):
                raise getattr(errors, name)("why")

    def test_no_two_names_are_one_class(self):
        own = [kind for name, kind in inspect.getmembers(errors, inspect.isclass)]
        self.assertEqual(len(own), 14)
        self.assertEqual(len(set(own)), 14)


if __name__ == "__main__":
    unittest.main()
