"""A memory: a row of words."""

from cellkeep.errors import BadCount, NoPlace
from cellkeep.whole import is_whole, is_within
from cellkeep.words import NOTHING, kind

MOST_WORDS = 4000


class Memory:

    def __init__(self, size):
        if not is_within(size, 1, MOST_WORDS):
            raise BadCount("no size of a memory")
        self.size = size
        self.words = [NOTHING] * size

    def read(self, at):
        self.want_place(at)
        return self.words[at]

    def write(self, at, word):
        self.want_place(at)
        # Asked only for its refusal of what is no word.
        kind(word)
        self.words[at] = word

    def copy(self, start, goal, many):
        if not is_whole(many) or many < 0:
            raise BadCount("no count of words")
        self.want_stretch(start, many)
        self.want_stretch(goal, many)
        # Taken out whole ahead of the first write, since both stretches may share places.
        stretch = self.words[start:start + many]
        for step in range(many):
            self.words[goal + step] = stretch[step]

    def want_place(self, at):
        if not is_within(at, 0, self.size - 1):
            raise NoPlace("no place of this memory")

    def want_stretch(self, begin, many):
        # A stretch of none may begin at the end, where no place is.
        if not is_within(begin, 0, self.size - many):
            raise NoPlace("the stretch is not within this memory")
