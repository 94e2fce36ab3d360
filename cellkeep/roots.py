"""Roots: hands, and the tables that go along with cells."""

from cellkeep.book import Book
from cellkeep.hands import Hands
from cellkeep.lasts import Lasts
from cellkeep.weak import Weak
from cellkeep.words import kind, worth


class Roots:

    def __init__(self, many):
        self.hands = Hands(many)
        self.book = Book()
        self.weaks = Weak()
        self.lasts = Lasts()

    def starts(self):
        return [worth(word) for word in self.hands.row() if kind(word) == "place"]

    def follow(self, goal_of):
        """Names and tickets go along with their cells; goal_of tells None of one that is gone."""
        for name, at in self.weaks.names():
            goal = goal_of(at)
            if goal is None:
                self.weaks.gone(name)
            else:
                self.weaks.move(name, goal)
        for ticket, at, number in self.lasts.pending():
            goal = goal_of(at)
            if goal is None:
                self.lasts.say(ticket)
            else:
                self.lasts.move(ticket, goal)
