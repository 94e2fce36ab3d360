"""[12]: deeds on a heap."""

import random

from cellkeep.areas import Areas
from cellkeep.cells import age_of, slots_of
from cellkeep.errors import BadCount, BadWord, NoHand, NoRoom, NoSlot, NothingHeld
from cellkeep.heap import Heap
from cellkeep.roots import Roots
from cellkeep.words import NOTHING, number_word, place_word
from tests.helper import (
    HUGE, MOST_NUMBER, NO_COUNTS_OF_SLOTS, NO_WORDS, NOT_WHOLE, CollectTest, World, words_in,
)

# Of a heap of three hands.
NO_HANDS = [-1, -3, 3, 4, HUGE, -HUGE] + NOT_WHOLE


class HeapTest(CollectTest):

    def assert_heap_refuses(self, heap, error, call, *args):
        ahead = World.of(heap).state()
        self.assert_refused(error, call, *args)
        self.assertEqual(World.of(heap).state(), ahead)


class NewTest(HeapTest):

    def test_parameters(self):
        heap = Heap(1, 4, 2)
        self.assert_parameters(Heap, ["hands", "old_words", "young_words"])
        self.assert_parameters(heap.make, ["hand", "slots"])
        self.assert_parameters(heap.held, ["hand"])
        self.assert_parameters(heap.hold, ["hand", "word"])
        self.assert_parameters(heap.drop, ["hand"])
        self.assert_parameters(heap.cell_of, ["hand"])
        self.assert_parameters(heap.get, ["hand", "slot"])
        self.assert_parameters(heap.put, ["hand", "slot", "word"])

    def test_new(self):
        for hands, old, young in [(1, 4, 2), (6, 2000, 500), (3, 60, 30)]:
            heap = Heap(hands, old, young)
            self.assertEqual((heap.areas.__class__, heap.roots.__class__), (Areas, Roots))
            world = World.of(heap)
            self.assertEqual(world.tops(), [
                (0, old, 0), (old, old + young, old), (old + young, old + 2 * young, old + young),
            ])
            self.assertEqual(world.tables(), ([NOTHING] * hands, [], [], [], []))
            self.assertEqual(words_in(world.memory), [NOTHING] * (old + 2 * young))

    def test_refused(self):
        self.assert_bounds_refused(Heap)

    def test_heaps_share_nothing(self):
        one, other = Heap(2, 20, 10), Heap(2, 20, 10)
        one.make(0, 3)
        self.assertEqual(World.of(other).state(), World.of(Heap(2, 20, 10)).state())


class MakeTest(HeapTest):

    def assert_made(self, heap, hand, slots, wanted):
        """The new cell is there, the hand holds it, and nothing else changed."""
        world = World.of(heap)
        tables = world.tables()
        cells = {**world.cells(heap.areas.old), **world.cells(heap.areas.young)}
        self.assert_whole(heap.make(hand, slots), wanted)
        self.assert_whole(heap.held(hand), place_word(wanted))
        age = 2 if heap.areas.area_of(wanted) == "old" else 0
        cells[wanted] = (age, [NOTHING] * slots)
        self.assertEqual({**world.cells(heap.areas.old), **world.cells(heap.areas.young)}, cells)
        hands = list(tables[0])
        hands[hand] = place_word(wanted)
        self.assertEqual(world.tables(), (hands,) + tables[1:])
        self.assert_fits(world)

    def test_in_young(self):
        heap = Heap(3, 60, 30)
        at = 60
        for slots in [0, 8, 3, 1, 8]:
            self.assert_made(heap, slots % 3, slots, at)
            at += slots + 1
        self.assertEqual(heap.areas.old.used(), 0)

    def test_at_the_edge_of_an_empty_half(self):
        for young in range(2, 10):
            heap = Heap(1, 30, young)
            self.assert_made(heap, 0, young - 1, 30)
            self.assertEqual(heap.areas.young.room(), 0)
            if young < 9:
                heap = Heap(1, 30, young)
                self.assert_made(heap, 0, young, 0)
                self.assertEqual((heap.areas.young.used(), heap.areas.old.used()), (0, young + 1))

    def test_an_empty_half_counts_not_a_used_one(self):
        heap = Heap(2, 30, 5)
        self.assert_made(heap, 0, 2, 30)
        # Five words fit into an empty half, so this one is never laid into old.
        self.assert_heap_refuses(heap, NoRoom, heap.make, 1, 4)
        self.assert_made(heap, 1, 5, 0)
        self.assert_made(heap, 1, 1, 33)
        self.assert_heap_refuses(heap, NoRoom, heap.make, 1, 0)
        self.assert_made(heap, 0, 8, 6)

    def test_no_room_in_old(self):
        heap = Heap(2, 10, 3)
        self.assert_made(heap, 0, 6, 0)
        self.assert_heap_refuses(heap, NoRoom, heap.make, 1, 3)
        self.assert_heap_refuses(heap, NoRoom, heap.make, 1, 8)
        self.assert_made(heap, 1, 2, 10)
        self.assert_heap_refuses(heap, NoRoom, heap.make, 1, 0)
        heap = Heap(2, 10, 3)
        self.assert_made(heap, 0, 8, 0)
        self.assert_heap_refuses(heap, NoRoom, heap.make, 1, 4)

    def test_slots_hold_nothing_where_words_stood(self):
        heap = Heap(2, 10, 3)
        for at in range(heap.areas.memory.size):
            heap.areas.memory.write(at, number_word(7))
        self.assert_made(heap, 0, 1, 10)
        self.assert_made(heap, 1, 4, 0)
        self.assertEqual([heap.get(0, 0)] + [heap.get(1, slot) for slot in range(4)], [NOTHING] * 5)

    def test_behind_a_flip(self):
        heap = Heap(2, 10, 3)
        heap.areas.flip()
        self.assert_made(heap, 0, 1, 13)

    def test_more_words_than_old_has(self):
        # Only a keeper looks at that.
        heap = Heap(1, 4, 20)
        self.assert_made(heap, 0, 8, 4)

    def test_no_deed_collects(self):
        heap = Heap(2, 30, 6)
        heap.make(0, 2)
        heap.make(0, 2)
        # The first cell is lost, but its room isn't free.
        self.assert_heap_refuses(heap, NoRoom, heap.make, 0, 0)
        heap.drop(0)
        self.assert_heap_refuses(heap, NoRoom, heap.make, 1, 2)
        heap.make(0, 7)
        for many in range(2):
            heap.make(0, 7)
        heap.drop(0)
        self.assert_heap_refuses(heap, NoRoom, heap.make, 0, 7)
        self.assertEqual(heap.areas.old.cells(heap.areas.memory), [0, 8, 16])
        self.assertEqual(heap.areas.young.cells(heap.areas.memory), [30, 33])

    def test_refused_in_order(self):
        heap = Heap(3, 4, 2)
        heap.make(0, 1)
        for hand in NO_HANDS:
            for slots in [0, 8, 9, -1, None, HUGE]:
                self.assert_heap_refuses(heap, NoHand, heap.make, hand, slots)
        for slots in NO_COUNTS_OF_SLOTS:
            self.assert_heap_refuses(heap, BadCount, heap.make, 1, slots)
        for slots in [0, 1, 4, 8]:
            self.assert_heap_refuses(heap, NoRoom, heap.make, 1, slots)
        self.assert_made(heap, 1, 3, 0)


class HandsTest(HeapTest):

    def test_nothing_at_first(self):
        heap = Heap(3, 20, 10)
        self.assertEqual([heap.held(hand) for hand in range(3)], [NOTHING] * 3)

    def test_hold_any_word(self):
        heap = Heap(3, 20, 10)
        for hand in range(3):
            for word in [0, 2, -2, 2 * MOST_NUMBER, -2 * MOST_NUMBER, NOTHING, 1, 3, 19999]:
                others = heap.roots.hands.row()
                others[hand] = word
                self.assertIsNone(heap.hold(hand, word))
                self.assert_whole(heap.held(hand), word)
                self.assertEqual(World.of(heap).tables(), (others, [], [], [], []))

    def test_drop(self):
        heap = Heap(3, 20, 10)
        at = heap.make(0, 2)
        heap.hold(1, number_word(5))
        heap.hold(2, place_word(at))
        self.assertIsNone(heap.drop(0))
        self.assertEqual(heap.roots.hands.row(), [NOTHING, 10, place_word(at)])
        self.assertIsNone(heap.drop(1))
        self.assertIsNone(heap.drop(1))
        self.assertEqual(heap.roots.hands.row(), [NOTHING, NOTHING, place_word(at)])
        self.assertEqual(heap.areas.young.cells(heap.areas.memory), [at])

    def test_no_hand(self):
        heap = Heap(3, 20, 10)
        heap.make(0, 2)
        for hand in NO_HANDS:
            self.assert_heap_refuses(heap, NoHand, heap.held, hand)
            self.assert_heap_refuses(heap, NoHand, heap.drop, hand)
            for word in [0, 1, NOTHING, -3, None, HUGE]:
                self.assert_heap_refuses(heap, NoHand, heap.hold, hand, word)

    def test_no_word(self):
        heap = Heap(3, 20, 10)
        heap.make(0, 2)
        for word in NO_WORDS:
            self.assert_heap_refuses(heap, BadWord, heap.hold, 0, word)


class SlotsTest(HeapTest):

    def test_cell_of(self):
        heap = Heap(3, 20, 5)
        heap.make(0, 2)
        self.assert_whole(heap.cell_of(0), 20)
        heap.make(2, 7)
        self.assert_whole(heap.cell_of(2), 0)
        heap.hold(1, heap.held(0))
        self.assert_whole(heap.cell_of(1), 20)

    def test_put_and_get(self):
        heap = Heap(3, 40, 20)
        first, second = heap.make(0, 3), heap.make(1, 2)
        words = [number_word(-5), place_word(second), place_word(first)]
        for slot, word in enumerate(words):
            self.assertEqual(heap.get(0, slot), NOTHING)
            self.assertIsNone(heap.put(0, slot, word))
            self.assert_whole(heap.get(0, slot), word)
        heap.put(1, 1, number_word(MOST_NUMBER))
        self.assertEqual([heap.get(0, slot) for slot in range(3)], words)
        self.assertEqual([heap.get(1, slot) for slot in range(2)], [NOTHING, 2 * MOST_NUMBER])
        heap.put(0, 0, NOTHING)
        self.assertEqual(heap.get(0, 0), NOTHING)
        self.assertEqual((heap.held(0), heap.held(1), heap.held(2)), (place_word(first), place_word(second), NOTHING))
        self.assertEqual([slots_of(heap.areas.memory, at) for at in [first, second]], [3, 2])
        self.assertEqual([age_of(heap.areas.memory, at) for at in [first, second]], [0, 0])

    def test_first_and_last_slot(self):
        for slots in range(1, 9):
            heap = Heap(1, 40, 20)
            heap.make(0, slots)
            heap.put(0, 0, number_word(1))
            heap.put(0, slots - 1, number_word(2))
            self.assertEqual(heap.get(0, slots - 1), 4)
            self.assertEqual(heap.get(0, 0), 4 if slots == 1 else 2)
            self.assert_heap_refuses(heap, NoSlot, heap.get, 0, slots)

    def test_refused_in_order(self):
        heap = Heap(3, 20, 10)
        heap.make(0, 2)
        heap.hold(1, number_word(0))
        for hand in NO_HANDS:
            self.assert_heap_refuses(heap, NoHand, heap.cell_of, hand)
            for slot in [0, 2, -1, None]:
                self.assert_heap_refuses(heap, NoHand, heap.get, hand, slot)
                for word in [0, -3, None]:
                    self.assert_heap_refuses(heap, NoHand, heap.put, hand, slot, word)
        for hand in [1, 2]:
            self.assert_heap_refuses(heap, NothingHeld, heap.cell_of, hand)
            for slot in [0, 2, -1, None]:
                self.assert_heap_refuses(heap, NothingHeld, heap.get, hand, slot)
                for word in [0, -3, None]:
                    self.assert_heap_refuses(heap, NothingHeld, heap.put, hand, slot, word)
        for slot in [-1, -2, 2, 3, 8, HUGE, -HUGE] + NOT_WHOLE:
            self.assert_heap_refuses(heap, NoSlot, heap.get, 0, slot)
            for word in [0, -3, None]:
                self.assert_heap_refuses(heap, NoSlot, heap.put, 0, slot, word)
        for word in NO_WORDS:
            self.assert_heap_refuses(heap, BadWord, heap.put, 0, 1, word)

    def test_a_cell_without_slots(self):
        heap = Heap(1, 20, 10)
        heap.make(0, 0)
        self.assert_heap_refuses(heap, NoSlot, heap.get, 0, 0)
        self.assert_heap_refuses(heap, NoSlot, heap.put, 0, 0, 0)


class BookTest(HeapTest):

    def setUp(self):
        """Hand 0 holds an old cell of six slots, hand 1 a young one of two, hand 2 another old one."""
        self.heap = Heap(3, 40, 6)
        self.old, self.young, self.other = self.heap.make(0, 6), self.heap.make(1, 2), self.heap.make(2, 6)
        self.assertEqual((self.old, self.young, self.other), (0, 40, 7))

    def assert_book(self, *wanted):
        self.assertEqual(self.heap.roots.book.places(), list(wanted))
        self.assert_fits(World.of(self.heap))

    def test_a_young_cell_in_an_old_one(self):
        self.heap.put(0, 3, place_word(self.young))
        self.assert_book(4)
        self.heap.put(2, 0, place_word(self.young))
        self.heap.put(0, 0, place_word(self.young))
        self.heap.put(0, 5, place_word(self.young))
        self.assert_book(1, 4, 6, 8)

    def test_other_words_in_an_old_cell(self):
        for word in [NOTHING, number_word(20), number_word(40), place_word(self.old), place_word(self.other)]:
            self.heap.put(0, 2, word)
            self.assert_book()

    def test_a_young_cell_holds(self):
        for word in [place_word(self.old), place_word(self.young), number_word(3), NOTHING]:
            self.heap.put(1, 1, word)
            self.assert_book()

    def test_written_over(self):
        for word in [NOTHING, number_word(20), place_word(self.old), place_word(self.other)]:
            self.heap.put(0, 3, place_word(self.young))
            self.heap.put(2, 3, place_word(self.young))
            self.assert_book(4, 11)
            self.heap.put(0, 3, word)
            self.assert_book(11)

    def test_a_young_cell_over_a_young_one(self):
        self.heap.put(0, 3, place_word(self.young))
        self.heap.put(0, 4, place_word(self.young))
        other = self.heap.make(1, 1)
        self.heap.put(0, 3, place_word(other))
        self.assert_book(4, 5)

    def test_refusals_leave_the_book(self):
        self.heap.put(0, 3, place_word(self.young))
        for word in NO_WORDS:
            self.assert_heap_refuses(self.heap, BadWord, self.heap.put, 0, 3, word)
        self.assert_heap_refuses(self.heap, NoSlot, self.heap.put, 0, 6, NOTHING)
        self.assert_book(4)

    def test_in_young_behind_a_flip(self):
        heap = Heap(3, 40, 6)
        heap.areas.flip()
        heap.make(0, 6)
        self.assertEqual(heap.make(1, 2), 46)
        heap.put(0, 0, heap.held(1))
        self.assertEqual(heap.roots.book.places(), [1])

    def test_many_deeds(self):
        for seed in range(20):
            rng = random.Random(seed)
            heap = Heap(4, 120, rng.randint(2, 60))
            for deed in range(60):
                hand = rng.randrange(4)
                try:
                    if rng.random() < 0.3:
                        heap.make(hand, rng.randint(0, 8))
                    elif rng.random() < 0.8:
                        heap.put(hand, rng.randint(0, 7), heap.held(rng.randrange(4)))
                    else:
                        heap.hold(hand, rng.choice([NOTHING, number_word(4), heap.held(rng.randrange(4))]))
                except (NoRoom, NothingHeld, NoSlot):
                    pass
                self.assert_fits(World.of(heap))
