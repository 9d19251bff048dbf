"""The errors of the package."""

import unittest

from nearsteps import errors
from odd_values import ODD_VALUES

NAMES = [
    "BadTable", "BadForm", "BadStep", "BadChange", "BadSpot",
    "BadNumber", "BadFraction", "BadList", "BadCoarse",
]


class ErrorsTest(unittest.TestCase):

    def test_base(self):
        self.assertEqual(errors.StepError.__bases__, (Exception,))

    def test_nine_direct_subclasses(self):
        self.assertEqual(
            sorted(kind.__name__ for kind in errors.StepError.__subclasses__()), sorted(NAMES))
        for name in NAMES:
            kind = getattr(errors, name)
            self.assertEqual(kind.__bases__, (errors.StepError,))
            self.assertEqual((kind.__name__, kind.__module__), (name, "nearsteps.errors"))
            self.assertIn("__init__", vars(kind))

    def test_thing_is_any_value(self):
        for name in NAMES:
            kind = getattr(errors, name)
            for value in ODD_VALUES:
                self.assertIs(kind(value).thing, value)
                self.assertIs(kind(thing=value).thing, value)

    def test_thing_is_needed(self):
        for name in NAMES:
            with self.assertRaises(TypeError):
                getattr(errors, name)()

    def test_caught_by_the_base(self):
        for name in NAMES:
            with self.assertRaises(errors.StepError) as caught:
                raise getattr(errors, name)((1, "a"))
            self.assertEqual(caught.exception.thing, (1, "a"))


if __name__ == "__main__":
    unittest.main()
