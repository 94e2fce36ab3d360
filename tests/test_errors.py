"""The fourteen error classes of the interface."""

import inspect
import unittest

from cellkeep import errors

STRAIGHT_UNDER = [
    "BadNumber", "BadWord", "BadCount", "NoPlace", "NoRoom", "NoSlot", "NoCell",
    "NoHand", "NothingHeld", "NoName", "NoDeed", "NoImage", "NoProgram",
]


class ErrorsTest(unittest.TestCase):

    def test_keep_error_stands_straight_under_value_error(self):
        self.assertEqual(errors.KeepError.__bases__, (ValueError,))

    def test_each_stands_straight_under_keep_error(self):
        for name in STRAIGHT_UNDER:
            with self.subTest(name):
                self.assertEqual(getattr(errors, name).__bases__, (errors.KeepError,))
                self.assertEqual(getattr(errors, name).__name__, name)

    def test_none_stands_under_another(self):
        for name in STRAIGHT_UNDER:
            for other in STRAIGHT_UNDER:
                with self.subTest(name=name, other=other):
                    under = issubclass(getattr(errors, name), getattr(errors, other))
                    self.assertEqual(under, name == other)

    def test_there_are_fourteen(self):
        classes = [name for name, thing in vars(errors).items() if inspect.isclass(thing)]
        self.assertEqual(sorted(classes), sorted(STRAIGHT_UNDER + ["KeepError"]))

    def test_each_can_be_raised_and_taken_as_any_refusal(self):
        for name in STRAIGHT_UNDER:
            with self.subTest(name):
                with self.assertRaises(errors.KeepError):
                    raise getattr(errors, name)("why")
                with self.assertRaises(ValueError):
                    raise getattr(errors, name)()
