"""What several test files need."""

import inspect
import unittest
from decimal import Decimal
from fractions import Fraction

from cellkeep.memory import Memory


class EqualToAll:
    """Equal to whatever it is compared with, but no whole number."""

    def __eq__(self, other):
        return True

    def __hash__(self):
        return 0


# Too great for Python to show by figures, so not for a subTest's or a failure's words.
HUGE = 10 ** 5000

NOT_WHOLE = [
    None, True, False, 0.0, 1.0, 2.5, float("nan"), float("inf"), 1j, "", "1", b"1",
    [], [1], (), (1,), {}, {1: 1}, set(), {1}, frozenset(), range(2),
    object(), int, len, EqualToAll(), Fraction(1), Decimal(1), Memory(1),
]


def words_in(memory):
    return [memory.read(at) for at in range(memory.size)]


def memory_of(words):
    memory = Memory(len(words))
    for at, word in enumerate(words):
        memory.write(at, word)
    return memory


class KeepTest(unittest.TestCase):

    def assert_refused(self, error, call, *args):
        """The call raises just this class, none above it."""
        with self.assertRaises(error) as caught:
            call(*args)
        self.assertEqual(caught.exception.__class__, error)

    def assert_refused_unchanged(self, memory, error, call, *args):
        ahead = words_in(memory)
        size = memory.size
        self.assert_refused(error, call, *args)
        self.assertEqual(memory.size, size)
        self.assertEqual(words_in(memory), ahead)

    def assert_parameters(self, call, names):
        self.assertEqual(list(inspect.signature(call).parameters), names)

    def assert_whole(self, thing, wanted):
        """Equal, and neither True nor False nor a fraction."""
        self.assertEqual(thing, wanted)
        self.assertEqual(thing.__class__, int)
