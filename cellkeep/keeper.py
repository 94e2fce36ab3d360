"""A keeper: a heap that collects as it must."""

from cellkeep.errors import NoRoom
from cellkeep.heap import Heap
from cellkeep.sliding import collect_all
from cellkeep.sound import faults
from cellkeep.words import kind, number_word, place_word, worth
from cellkeep.young import collect_young


class Keeper:

    def __init__(self, hands, old_words, young_words):
        self.heap = Heap(hands, old_words, young_words)

    def make(self, hand, slots):
        # Looked at ahead of any collection: what is no hand or count is no reason to collect.
        self.heap.want_make(hand, slots)
        self.make_room(slots)
        self.heap.make(hand, slots)

    def keep(self, hand, number):
        self.heap.want_hand(hand)
        self.heap.hold(hand, number_word(number))

    def share(self, hand, other):
        self.heap.hold(hand, self.heap.held(other))

    def drop(self, hand):
        self.heap.drop(hand)

    def read(self, hand):
        word = self.heap.held(hand)
        if kind(word) == "place":
            return "cell"
        return worth(word)

    def take(self, hand, other, slot):
        self.heap.want_hand(hand)
        self.heap.hold(hand, self.heap.get(other, slot))

    def put(self, hand, slot, other):
        self.heap.put(hand, slot, self.heap.held(other))

    def name_cell(self, hand):
        return self.heap.roots.weaks.name(self.heap.cell_of(hand))

    def find(self, name, hand):
        self.heap.want_hand(hand)
        at = self.heap.roots.weaks.at(name)
        if at is None:
            self.heap.drop(hand)
            return False
        self.heap.hold(hand, place_word(at))
        return True

    def give_last(self, hand, number):
        self.heap.roots.lasts.give(self.heap.cell_of(hand), number)

    def tidy(self):
        collect_young(self.heap.areas, self.heap.roots)

    def tidy_all(self):
        collect_all(self.heap.areas, self.heap.roots)

    def said(self):
        return self.heap.roots.lasts.said()

    def used(self):
        return self.heap.areas.old.used() + self.heap.areas.young.used()

    def unsound(self):
        return faults(self.heap.areas, self.heap.roots)

    def make_room(self, slots):
        if self.heap.is_for_young(slots) and not self.fits_young(slots):
            self.tidy()
            if not self.fits_young(slots):
                self.tidy_all()
        if not self.fits_in_all(slots):
            self.tidy_all()
        if not self.fits_in_all(slots):
            raise NoRoom("what hands reach and the new cell have too many words")

    def fits_young(self, slots):
        return slots + 1 <= self.heap.areas.young.room()

    def fits_in_all(self, slots):
        # No more words in all than old has: so old has room for whatever a collection moves there.
        return self.used() + slots + 1 <= self.heap.areas.old.extent()
