"""A book: the places of slots of old cells in which a young cell stands."""

from cellkeep.errors import NoPlace
from cellkeep.words import is_place


class Book:

    def __init__(self):
        self.written = {}

    def write(self, place):
        self.want_place(place)
        self.written[place] = True

    def rub(self, place):
        if self.has(place):
            self.written.pop(place)

    def has(self, place):
        self.want_place(place)
        return place in self.written

    def places(self):
        return sorted(self.written)

    def clear(self):
        self.written = {}

    def want_place(self, place):
        if not is_place(place):
            raise NoPlace("no place that a word can tell")
