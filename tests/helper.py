"""What several test files need."""

import inspect
import unittest
from decimal import Decimal
from fractions import Fraction

from cellkeep.areas import Areas
from cellkeep.cells import age_of, aged, children, slot_place, slots_of
from cellkeep.errors import BadCount
from cellkeep.memory import Memory
from cellkeep.notes import line_of
from cellkeep.roots import Roots
from cellkeep.words import NOTHING, kind, place_word, worth


class EqualToAll:
    """Equal to whatever it is compared with, but no whole number."""

    def __eq__(self, other):
        return True

    def __hash__(self):
        return 0


# Too great for Python to show by figures, so not for a subTest's or a failure's words.
HUGE = 10 ** 5000

NOT_WHOLE = [
    None, True, False, 0.0, 1.0, 2.5, float("nan"), float("inf"), 1j, "", "1", b"1",
    [], [1], (), (1,), {}, {1: 1}, set(), {1}, frozenset(), range(2),
    object(), int, len, EqualToAll(), Fraction(1), Decimal(1), Memory(1),
]

MOST_NUMBER = 10 ** 12
NO_NUMBERS = [MOST_NUMBER + 1, -MOST_NUMBER - 1, HUGE, -HUGE] + NOT_WHOLE
NO_WORDS = [
    -3, 20001, 2 * MOST_NUMBER + 1, 2 * MOST_NUMBER + 2, -2 * MOST_NUMBER - 2, 1 - 2 * MOST_NUMBER, HUGE, -HUGE,
] + NOT_WHOLE
NO_COUNTS_OF_SLOTS = [-1, -2, 9, 10, HUGE, -HUGE] + NOT_WHOLE


def words_in(memory):
    return [memory.read(at) for at in range(memory.size)]


def memory_of(words):
    memory = Memory(len(words))
    for at, word in enumerate(words):
        memory.write(at, word)
    return memory


class KeepTest(unittest.TestCase):

    def assert_refused(self, error, call, *args):
        """The call raises just this class, none above it."""
        with self.assertRaises(error) as caught:
            call(*args)
        self.assertEqual(caught.exception.__class__, error)

    def assert_refused_unchanged(self, memory, error, call, *args):
        ahead = words_in(memory)
        size = memory.size
        self.assert_refused(error, call, *args)
        self.assertEqual(memory.size, size)
        self.assertEqual(words_in(memory), ahead)

    def assert_parameters(self, call, names):
        self.assertEqual(list(inspect.signature(call).parameters), names)

    def assert_bounds_refused(self, call, *args):
        """Counts of hands, old words and young words that are none are refused."""
        for hands in [0, 7, -1, HUGE, -HUGE] + NOT_WHOLE:
            self.assert_refused(BadCount, call, hands, 60, 30, *args)
        self.assert_refused(BadCount, call, 0, 3, 1, *args)
        self.assert_words_refused(lambda old, young: call(3, old, young, *args))

    def assert_words_refused(self, call):
        for old in [3, 2001, 0, -4, HUGE, -HUGE] + NOT_WHOLE:
            self.assert_refused(BadCount, call, old, 30)
        for young in [1, 501, 0, -2, HUGE, -HUGE] + NOT_WHOLE:
            self.assert_refused(BadCount, call, 60, young)

    def assert_whole(self, thing, wanted):
        """Equal, and neither True nor False nor a fraction."""
        self.assertEqual(thing, wanted)
        self.assertEqual(thing.__class__, int)


class World:
    """Areas and roots that fit one another ([8]), built cell by cell."""

    def __init__(self, hands=3, old_words=60, young_words=30):
        self.areas = Areas(old_words, young_words)
        self.memory = self.areas.memory
        self.roots = Roots(hands)

    @classmethod
    def of(cls, heap):
        """The world of a heap's own areas and roots."""
        world = cls()
        world.areas, world.memory, world.roots = heap.areas, heap.areas.memory, heap.roots
        return world

    def old(self, *words):
        return self.filled(self.areas.lay_old(len(words)), words)

    def young(self, *words, age=0):
        at = self.areas.lay_young(len(words))
        aged(self.memory, at, age)
        return self.filled(at, words)

    def filled(self, at, words):
        for slot, word in enumerate(words):
            self.put(at, slot, word)
        return at

    def put(self, at, slot, word):
        place = slot_place(self.memory, at, slot)
        self.memory.write(place, word)
        self.roots.book.rub(place)
        if self.areas.old.has(at) and self.is_of_young(word):
            self.roots.book.write(place)

    def hold(self, *words):
        """All hands hold these words, by hands, and nothing behind them."""
        for hand in range(len(self.roots.hands.row())):
            self.roots.hands.put(hand, words[hand] if hand < len(words) else NOTHING)

    def is_of_young(self, word):
        return kind(word) == "place" and self.areas.young.has(worth(word))

    def cell(self, at):
        """Its age and the words in its slots."""
        slots = slots_of(self.memory, at)
        return (age_of(self.memory, at), [self.memory.read(at + 1 + slot) for slot in range(slots)])

    def cells(self, space):
        """All cells of a space, by their places."""
        return {at: self.cell(at) for at in space.cells(self.memory)}

    def tops(self):
        return [(space.begin, space.end, space.top)
                for space in [self.areas.old, self.areas.young, self.areas.spare]]

    def tables(self):
        roots = self.roots
        return (roots.hands.row(), roots.book.places(), roots.weaks.names(),
                roots.lasts.pending(), roots.lasts.said())

    def state(self):
        return (words_in(self.memory), self.tops(), self.tables())

    def standing(self):
        """All places that hands, slots, names and tickets tell."""
        cells = self.areas.old.cells(self.memory) + self.areas.young.cells(self.memory)
        places = self.roots.starts() + [child for at in cells for child in children(self.memory, at)]
        places += [at for name, at in self.roots.weaks.names()]
        return places + [at for ticket, at, number in self.roots.lasts.pending()]

    def wanted_book(self):
        return [
            at + 1 + slot
            for at, (age, words) in self.cells(self.areas.old).items()
            for slot, word in enumerate(words) if self.is_of_young(word)
        ]


def places(*ats):
    return [place_word(at) for at in ats]


def some_lines(rng, hands):
    """Lines of deeds, most of which are done."""
    parts = {
        "make": "hs", "keep": "hn", "share": "hh", "drop": "h", "read": "h", "take": "hhs", "put": "hsh",
        "name": "h", "find": "nh", "last": "hn", "young": "", "all": "", "said": "",
    }
    most = {"h": hands, "s": 4, "n": 6}
    lines = []
    for many in range(120):
        word = rng.choice(list(parts) + ["make", "put", "take", "put"])
        lines.append(line_of((word,) + tuple(rng.randint(0, most[part]) for part in parts[word])))
    return lines


class CollectTest(KeepTest):

    def assert_fits(self, world):
        """All that [8] tells."""
        areas = world.areas
        old, young = areas.old.cells(world.memory), areas.young.cells(world.memory)
        self.assertEqual([at for at in world.standing() if at not in old + young], [])
        self.assertEqual((areas.spare.used(), areas.spare.top), (0, areas.spare.begin))
        self.assertEqual([at for at in old if age_of(world.memory, at) != 2], [])
        self.assertEqual([at for at in young if age_of(world.memory, at) not in (0, 1)], [])
        self.assertEqual(world.roots.book.places(), world.wanted_book())
