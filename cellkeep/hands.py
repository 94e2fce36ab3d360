"""Hands: they hold words, and all that a program can come to hangs on them."""

from cellkeep.errors import BadCount, NoHand
from cellkeep.whole import is_within
from cellkeep.words import NOTHING, kind

MOST_HANDS = 6


class Hands:

    def __init__(self, many):
        if not is_within(many, 1, MOST_HANDS):
            raise BadCount("no count of hands")
        self.words = [NOTHING] * many

    def get(self, hand):
        self.want_hand(hand)
        return self.words[hand]

    def put(self, hand, word):
        self.want_hand(hand)
        # Asked only for its refusal of what is no word.
        kind(word)
        self.words[hand] = word

    def row(self):
        return list(self.words)

    def want_hand(self, hand):
        if not is_within(hand, 0, len(self.words) - 1):
            raise NoHand("there is no such hand")
