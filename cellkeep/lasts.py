"""Last words: numbers given to places with tickets, each said once."""

from cellkeep.errors import NoName
from cellkeep.whole import is_whole
from cellkeep.words import want_number, want_place


class Lasts:

    def __init__(self):
        # From each pending ticket to its place and number.
        self.waiting = {}
        self.spoken = []

    def give(self, at, number):
        want_place(at)
        want_number(number)
        ticket = len(self.waiting) + len(self.spoken)
        self.waiting[ticket] = (at, number)
        return ticket

    def pending(self):
        return [(ticket,) + self.waiting[ticket] for ticket in sorted(self.waiting)]

    def move(self, ticket, at):
        self.want_pending(ticket)
        want_place(at)
        self.waiting[ticket] = (at, self.waiting[ticket][1])

    def say(self, ticket):
        self.want_pending(ticket)
        self.spoken.append(self.waiting[ticket][1])
        self.waiting.pop(ticket)

    def said(self):
        return list(self.spoken)

    def refill(self, pending, said):
        """Stands behind it as one that has these pending tickets and said these numbers."""
        waiting = {}
        for ticket, at, number in pending:
            want_place(at)
            want_number(number)
            waiting[ticket] = (at, number)
        for number in said:
            want_number(number)
        self.waiting = waiting
        self.spoken = list(said)

    def want_pending(self, ticket):
        if not is_whole(ticket) or ticket not in self.waiting:
            raise NoName("there is no such pending ticket")
