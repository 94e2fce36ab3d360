"""A heap: hands, areas and what hangs on them; its deeds keep the book, and none of them collects."""

from cellkeep.areas import Areas
from cellkeep.cells import slot_place, want_slots
from cellkeep.errors import NothingHeld
from cellkeep.roots import Roots
from cellkeep.words import NOTHING, kind, place_word, worth
from cellkeep.young import is_of_young


class Heap:

    def __init__(self, hands, old_words, young_words):
        self.roots = Roots(hands)
        self.areas = Areas(old_words, young_words)

    def make(self, hand, slots):
        self.want_make(hand, slots)
        if self.is_for_young(slots):
            at = self.areas.lay_young(slots)
        else:
            at = self.areas.lay_old(slots)
        self.hold(hand, place_word(at))
        return at

    def held(self, hand):
        return self.roots.hands.get(hand)

    def hold(self, hand, word):
        self.roots.hands.put(hand, word)

    def drop(self, hand):
        self.hold(hand, NOTHING)

    def cell_of(self, hand):
        word = self.held(hand)
        if kind(word) != "place":
            raise NothingHeld("the hand holds no cell")
        return worth(word)

    def get(self, hand, slot):
        return self.areas.memory.read(self.place_of(hand, slot))

    def put(self, hand, slot, word):
        place = self.place_of(hand, slot)
        self.areas.memory.write(place, word)
        self.note(place, word)

    def place_of(self, hand, slot):
        return slot_place(self.areas.memory, self.cell_of(hand), slot)

    def note(self, place, word):
        """The book has a slot's place just if the slot is of an old cell and a young one stands in it."""
        if self.areas.old.has(place) and is_of_young(self.areas, word):
            self.roots.book.write(place)
        else:
            self.roots.book.rub(place)

    def want_hand(self, hand):
        self.roots.hands.want_hand(hand)

    def want_make(self, hand, slots):
        self.want_hand(hand)
        want_slots(slots)

    def is_for_young(self, slots):
        return slots + 1 <= self.areas.young.extent()
