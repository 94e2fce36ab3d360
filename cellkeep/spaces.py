"""Spaces: stretches of a memory, each used from its begin up to its top."""

from cellkeep.cells import words_of
from cellkeep.errors import BadCount, NoRoom
from cellkeep.whole import is_whole, is_within


class Space:

    def __init__(self, begin, end):
        self.begin = begin
        self.end = end
        self.top = begin

    def room(self):
        return self.end - self.top

    def used(self):
        return self.top - self.begin

    def extent(self):
        return self.end - self.begin

    def has(self, at):
        return is_within(at, self.begin, self.top - 1)

    def take(self, many):
        if not is_whole(many) or many < 1:
            raise BadCount("no count of words to take")
        if many > self.room():
            raise NoRoom("the space has too few free words")
        at = self.top
        self.top = at + many
        return at

    def empty(self):
        self.top = self.begin

    def cut(self, top):
        if not is_within(top, self.begin, self.end):
            raise BadCount("no top of this space")
        self.top = top

    def cells(self, memory):
        found = []
        at = self.begin
        while at < self.top:
            found.append(at)
            at = at + words_of(memory, at)
        return found
