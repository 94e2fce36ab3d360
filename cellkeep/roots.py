"""Roots: hands, and the tables that go along with cells."""

from cellkeep.book import Book
from cellkeep.hands import Hands
from cellkeep.lasts import Lasts
from cellkeep.weak import Weak
from cellkeep.words import kind, worth


class Roots:

    def __init__(self, many):
        self.hands = Hands(many)
        self.book = Book()
        self.weaks = Weak()
        self.lasts = Lasts()

    def starts(self):
        return [worth(word) for word in self.hands.row() if kind(word) == "place"]
