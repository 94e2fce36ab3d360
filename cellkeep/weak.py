"""Weak names: each tells a place until it is gone, which is for ever."""

from cellkeep.errors import NoName
from cellkeep.whole import is_within
from cellkeep.words import want_place


class Weak:

    def __init__(self):
        # By names; a gone one keeps its row, as None, so that its number is never told anew.
        self.told = []

    def name(self, at):
        want_place(at)
        self.told.append(at)
        return len(self.told) - 1

    def at(self, name):
        if not is_within(name, 0, len(self.told) - 1):
            raise NoName("there is no such name")
        return self.told[name]

    def move(self, name, at):
        self.want_standing(name)
        want_place(at)
        self.told[name] = at

    def gone(self, name):
        self.want_standing(name)
        self.told[name] = None

    def names(self):
        return [(name, at) for name, at in enumerate(self.told) if at is not None]

    def row(self):
        """The places of all names, by their numbers, None of one that is gone."""
        return list(self.told)

    def want_standing(self, name):
        if self.at(name) is None:
            raise NoName("the name is gone")
