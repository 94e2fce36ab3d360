"""A book: the places of slots of old cells in which a young cell stands."""

from cellkeep.words import want_place


class Book:

    def __init__(self):
        self.written = {}

    def write(self, place):
        want_place(place)
        self.written[place] = True

    def rub(self, place):
        if self.has(place):
            self.written.pop(place)

    def has(self, place):
        want_place(place)
        return place in self.written

    def places(self):
        return sorted(self.written)

    def clear(self):
        self.written = {}
