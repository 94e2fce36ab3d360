"""Areas: a memory with a space for old cells and two halves for young ones."""

from cellkeep.cells import MOST_AGE, aged, lay, want_slots
from cellkeep.errors import BadCount
from cellkeep.memory import Memory
from cellkeep.spaces import Space
from cellkeep.whole import is_within

LEAST_OLD_WORDS = 4
MOST_OLD_WORDS = 2000
LEAST_YOUNG_WORDS = 2
MOST_YOUNG_WORDS = 500


class Areas:

    def __init__(self, old_words, young_words):
        if not is_within(old_words, LEAST_OLD_WORDS, MOST_OLD_WORDS):
            raise BadCount("no count of old words")
        if not is_within(young_words, LEAST_YOUNG_WORDS, MOST_YOUNG_WORDS):
            raise BadCount("no count of young words")
        middle = old_words + young_words
        size = middle + young_words
        self.memory = Memory(size)
        self.old = Space(0, old_words)
        self.young = Space(old_words, middle)
        self.spare = Space(middle, size)

    def flip(self):
        young = self.young
        self.young = self.spare
        self.spare = young

    def area_of(self, at):
        if self.old.has(at):
            return "old"
        if self.young.has(at):
            return "young"
        return None

    def lay_young(self, slots):
        return self.lay_into(self.young, slots, 0)

    def lay_old(self, slots):
        return self.lay_into(self.old, slots, MOST_AGE)

    def lay_into(self, space, slots, age):
        # Looked at ahead of take, which would else refuse some of these counts with NoRoom.
        want_slots(slots)
        at = space.take(slots + 1)
        lay(self.memory, at, slots)
        aged(self.memory, at, age)
        return at
