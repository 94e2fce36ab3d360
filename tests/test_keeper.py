"""[13], [14]: the keeper."""

import random

from cellkeep.cells import aged
from cellkeep.errors import BadCount, BadNumber, NoHand, NoName, NoRoom, NoSlot, NothingHeld
from cellkeep.heap import Heap
from cellkeep.keeper import Keeper
from cellkeep.picture import picture
from cellkeep.words import NOTHING, number_word, place_word
from tests.helper import (
    HUGE, MOST_NUMBER, NO_COUNTS_OF_SLOTS, NO_NUMBERS, NOT_WHOLE, CollectTest, World, places,
)

# Of a keeper of three hands.
NO_HANDS = [-1, -3, 3, 4, HUGE, -HUGE] + NOT_WHOLE


class KeeperTest(CollectTest):

    def assert_keeper_refuses(self, keeper, error, call, *args):
        """Refused, without any collection ahead."""
        ahead = World.of(keeper.heap).state()
        self.assert_refused(error, call, *args)
        self.assertEqual(World.of(keeper.heap).state(), ahead)

    def assert_kept(self, keeper):
        """All that [8] tells, and no more words used than old has."""
        self.assert_fits(World.of(keeper.heap))
        areas = keeper.heap.areas
        self.assertEqual(keeper.used(), areas.old.used() + areas.young.used())
        self.assertLessEqual(keeper.used(), areas.old.end)
        self.assertEqual(keeper.unsound(), [])

    def assert_cells(self, keeper, old, young):
        """Dicts from each cell's place to its age and words."""
        world = World.of(keeper.heap)
        self.assertEqual(world.cells(keeper.heap.areas.old), old)
        self.assertEqual(world.cells(keeper.heap.areas.young), young)
        self.assert_kept(keeper)

    def assert_picture(self, keeper, wanted):
        self.assertEqual(picture(keeper.heap.areas, keeper.heap.roots), wanted)


class NewTest(KeeperTest):

    def test_parameters(self):
        keeper = Keeper(1, 4, 2)
        self.assert_parameters(Keeper, ["hands", "old_words", "young_words"])
        for call, names in [
            (keeper.make, ["hand", "slots"]), (keeper.keep, ["hand", "number"]), (keeper.share, ["hand", "other"]),
            (keeper.drop, ["hand"]), (keeper.read, ["hand"]), (keeper.take, ["hand", "other", "slot"]),
            (keeper.put, ["hand", "slot", "other"]), (keeper.name_cell, ["hand"]), (keeper.find, ["name", "hand"]),
            (keeper.give_last, ["hand", "number"]), (keeper.tidy, []), (keeper.tidy_all, []), (keeper.said, []),
            (keeper.used, []), (keeper.unsound, []),
        ]:
            self.assert_parameters(call, names)

    def test_new(self):
        for hands, old, young in [(1, 4, 2), (6, 2000, 500), (3, 60, 30)]:
            keeper = Keeper(hands, old, young)
            self.assertEqual(keeper.heap.__class__, Heap)
            self.assertEqual(World.of(keeper.heap).state(), World.of(Heap(hands, old, young)).state())
            self.assertEqual([keeper.read(hand) for hand in range(hands)], [None] * hands)
            self.assertEqual((keeper.said(), keeper.used(), keeper.unsound()), ([], 0, []))

    def test_refused(self):
        self.assert_bounds_refused(Keeper)


class MakeTest(KeeperTest):

    def test_without_collecting(self):
        keeper = Keeper(2, 30, 6)
        self.assertIsNone(keeper.make(0, 2))
        self.assertIsNone(keeper.make(0, 2))
        self.assertIsNone(keeper.make(1, 6))
        # The first one is lost, but nothing collected yet.
        self.assert_cells(keeper, {0: (2, [NOTHING] * 6)}, {
            30: (0, [NOTHING, NOTHING]), 33: (0, [NOTHING, NOTHING]),
        })
        self.assertEqual(keeper.heap.roots.hands.row(), places(33, 0))
        self.assert_whole(keeper.used(), 13)

    def test_a_young_collection(self):
        keeper = Keeper(2, 30, 6)
        keeper.make(0, 2)
        keeper.make(0, 2)
        keeper.make(1, 2)
        self.assert_cells(keeper, {}, {36: (1, [NOTHING, NOTHING]), 39: (0, [NOTHING, NOTHING])})
        self.assertEqual(keeper.heap.roots.hands.row(), places(36, 39))

    def test_a_young_collection_where_one_word_lacks(self):
        for slots, collects in [(2, False), (3, True)]:
            keeper = Keeper(2, 30, 6)
            keeper.make(0, 2)
            keeper.drop(0)
            keeper.make(1, slots)
            self.assert_whole(keeper.used(), 4 if collects else 6)
            self.assertEqual(keeper.heap.roots.hands.row(), [NOTHING] + places(36 if collects else 33))

    def test_a_young_collection_leaves_old_cells(self):
        keeper = Keeper(2, 30, 6)
        keeper.make(0, 7)
        keeper.make(0, 5)
        keeper.drop(0)
        keeper.make(1, 1)
        self.assert_cells(keeper, {0: (2, [NOTHING] * 7)}, {36: (0, [NOTHING])})

    def test_a_young_collection_by_which_cells_become_old(self):
        keeper = Keeper(3, 30, 6)
        keeper.make(0, 2)
        keeper.tidy()
        keeper.make(1, 2)
        keeper.make(2, 2)
        self.assert_cells(keeper, {0: (2, [NOTHING] * 2)}, {30: (1, [NOTHING] * 2), 33: (0, [NOTHING] * 2)})
        self.assertEqual(keeper.heap.roots.hands.row(), places(0, 30, 33))

    def test_a_whole_one_behind_a_young_one(self):
        keeper = Keeper(3, 30, 6)
        keeper.make(0, 2)
        keeper.make(1, 2)
        keeper.make(2, 0)
        at = keeper.heap.cell_of(2)
        self.assert_cells(keeper, {0: (2, [NOTHING] * 2), 3: (2, [NOTHING] * 2)}, {at: (0, [])})
        self.assertEqual(keeper.heap.roots.hands.row(), places(0, 3, at))

    def test_a_whole_one_behind_a_young_one_frees_old_cells(self):
        keeper = Keeper(3, 30, 6)
        keeper.make(0, 7)
        keeper.make(0, 2)
        keeper.make(1, 2)
        keeper.make(2, 2)
        at = keeper.heap.cell_of(2)
        self.assert_cells(keeper, {0: (2, [NOTHING] * 2), 3: (2, [NOTHING] * 2)}, {at: (0, [NOTHING] * 2)})

    def test_a_whole_one_since_too_many_words_are_used(self):
        keeper = Keeper(2, 10, 20)
        keeper.make(0, 4)
        keeper.make(0, 3)
        self.assert_whole(keeper.used(), 9)
        keeper.make(1, 1)
        at = keeper.heap.cell_of(1)
        self.assert_cells(keeper, {0: (2, [NOTHING] * 3)}, {at: (0, [NOTHING])})

    def test_just_as_many_words_as_old_has(self):
        keeper = Keeper(2, 10, 20)
        keeper.make(0, 4)
        keeper.make(0, 3)
        keeper.make(1, 0)
        self.assert_cells(keeper, {}, {10: (0, [NOTHING] * 4), 15: (0, [NOTHING] * 3), 19: (0, [])})
        self.assert_whole(keeper.used(), 10)

    def test_a_whole_one_for_a_cell_of_old(self):
        keeper = Keeper(2, 10, 3)
        keeper.make(0, 5)
        keeper.make(0, 3)
        self.assertEqual(keeper.used(), 10)
        keeper.make(1, 4)
        self.assert_cells(keeper, {0: (2, [NOTHING] * 3), 4: (2, [NOTHING] * 4)}, {})
        self.assertEqual(keeper.heap.roots.hands.row(), places(0, 4))

    def test_young_words_count_for_a_cell_of_old(self):
        keeper = Keeper(2, 10, 4)
        keeper.make(0, 2)
        keeper.make(1, 6)
        self.assert_cells(keeper, {0: (2, [NOTHING] * 6)}, {10: (0, [NOTHING] * 2)})
        keeper = Keeper(2, 10, 4)
        keeper.make(0, 2)
        keeper.drop(0)
        keeper.make(1, 7)
        self.assert_cells(keeper, {0: (2, [NOTHING] * 7)}, {})

    def test_a_full_young_half_is_left_for_a_cell_of_old(self):
        keeper = Keeper(2, 20, 3)
        keeper.make(0, 2)
        keeper.drop(0)
        keeper.make(1, 3)
        self.assert_cells(keeper, {0: (2, [NOTHING] * 3)}, {20: (0, [NOTHING] * 2)})

    def test_a_young_collection_makes_room_in_all(self):
        # Behind the young collection the words are few enough, so no whole one follows.
        keeper = Keeper(2, 12, 4)
        keeper.make(0, 7)
        keeper.make(0, 2)
        keeper.drop(0)
        keeper.make(1, 2)
        self.assert_cells(keeper, {0: (2, [NOTHING] * 7)}, {16: (0, [NOTHING] * 2)})

    def test_the_first_hand_that_is_written_over(self):
        keeper = Keeper(1, 10, 3)
        for many in range(20):
            keeper.make(0, 2)
            self.assert_kept(keeper)
        self.assert_picture(keeper, ([("cell", 0)], [[None, None]]))

    def test_refused_in_order(self):
        keeper = Keeper(3, 10, 4)
        keeper.make(0, 3)
        keeper.make(1, 5)
        # Both young and old are full, so each of these would else collect.
        for hand in NO_HANDS:
            for slots in [0, 3, 8, 9, -1, None, HUGE]:
                self.assert_keeper_refuses(keeper, NoHand, keeper.make, hand, slots)
        for slots in NO_COUNTS_OF_SLOTS:
            self.assert_keeper_refuses(keeper, BadCount, keeper.make, 2, slots)
        for slots in range(9):
            self.assert_refused(NoRoom, keeper.make, 2, slots)
            self.assert_kept(keeper)
            self.assert_picture(keeper, ([("cell", 0), ("cell", 1), None], [[None] * 3, [None] * 5]))


class NoRoomTest(KeeperTest):

    def test_just_where_words_are_too_many(self):
        for young in [2, 3, 5, 9, 50]:
            for slots in range(9):
                keeper = Keeper(2, 12, young)
                keeper.make(0, 4)
                if slots <= 6:
                    self.assertIsNone(keeper.make(1, slots))
                    self.assert_picture(keeper, ([("cell", 0), ("cell", 1)], [[None] * 4, [None] * slots]))
                else:
                    self.assert_refused(NoRoom, keeper.make, 1, slots)
                    self.assert_picture(keeper, ([("cell", 0), None], [[None] * 4]))
                self.assert_kept(keeper)

    def test_more_words_than_old_ever_has(self):
        for young in [2, 4, 20]:
            keeper = Keeper(1, 4, young)
            self.assert_refused(NoRoom, keeper.make, 0, 4)
            self.assertIsNone(keeper.read(0))
            keeper.make(0, 3)
            self.assert_kept(keeper)

    def test_what_the_hand_held_counts(self):
        keeper = Keeper(1, 10, 3)
        keeper.make(0, 5)
        self.assert_refused(NoRoom, keeper.make, 0, 4)
        self.assert_picture(keeper, ([("cell", 0)], [[None] * 5]))
        keeper.make(0, 3)
        self.assert_picture(keeper, ([("cell", 0)], [[None] * 3]))
        keeper.drop(0)
        keeper.make(0, 8)
        self.assert_kept(keeper)

    def test_what_other_hands_held_once_does_not(self):
        keeper = Keeper(2, 10, 20)
        keeper.make(0, 8)
        self.assert_refused(NoRoom, keeper.make, 1, 1)
        keeper.drop(0)
        self.assertIsNone(keeper.make(1, 8))
        self.assert_whole(keeper.used(), 9)

    def test_what_is_reached_through_slots_counts(self):
        keeper = Keeper(2, 10, 4)
        keeper.make(0, 2)
        keeper.make(1, 3)
        keeper.put(0, 1, 1)
        keeper.drop(1)
        self.assert_refused(NoRoom, keeper.make, 1, 3)
        self.assert_picture(keeper, ([("cell", 0), None], [[None, ("cell", 1)], [None] * 3]))
        self.assertIsNone(keeper.make(1, 2))
        keeper.drop(1)
        keeper.put(0, 1, 1)
        self.assertIsNone(keeper.make(1, 6))
        self.assert_kept(keeper)

    def test_names_and_tickets_do_not_count(self):
        keeper = Keeper(2, 10, 4)
        keeper.make(0, 8)
        name = keeper.name_cell(0)
        keeper.give_last(0, 5)
        keeper.drop(0)
        keeper.make(0, 8)
        self.assertEqual((keeper.find(name, 1), keeper.said()), (False, [5]))
        self.assert_kept(keeper)

    def test_a_refusal_may_have_collected(self):
        keeper = Keeper(2, 10, 4)
        keeper.make(0, 5)
        keeper.make(1, 1)
        name = keeper.name_cell(1)
        keeper.give_last(1, 7)
        keeper.drop(1)
        self.assert_refused(NoRoom, keeper.make, 1, 4)
        self.assertEqual((keeper.used(), keeper.said(), keeper.find(name, 1)), (6, [7], False))
        self.assert_kept(keeper)


class HandsTest(KeeperTest):

    def test_keep(self):
        keeper = Keeper(3, 20, 10)
        for hand in range(3):
            for number in [0, 1, -1, MOST_NUMBER, -MOST_NUMBER]:
                self.assertIsNone(keeper.keep(hand, number))
                self.assert_whole(keeper.read(hand), number)
        keeper.keep(1, 4)
        self.assertEqual([keeper.read(hand) for hand in range(3)], [-MOST_NUMBER, 4, -MOST_NUMBER])

    def test_keep_refused(self):
        keeper = Keeper(3, 20, 10)
        keeper.make(0, 2)
        for hand in NO_HANDS:
            for number in [0, MOST_NUMBER + 1, None]:
                self.assert_keeper_refuses(keeper, NoHand, keeper.keep, hand, number)
        for number in NO_NUMBERS:
            self.assert_keeper_refuses(keeper, BadNumber, keeper.keep, 0, number)

    def test_share(self):
        keeper = Keeper(3, 20, 10)
        keeper.make(0, 2)
        keeper.keep(1, -8)
        self.assertIsNone(keeper.share(2, 0))
        self.assert_picture(keeper, ([("cell", 0), -8, ("cell", 0)], [[None, None]]))
        keeper.share(0, 1)
        self.assert_picture(keeper, ([-8, -8, ("cell", 0)], [[None, None]]))
        keeper.share(2, 2)
        self.assert_picture(keeper, ([-8, -8, ("cell", 0)], [[None, None]]))
        keeper.drop(0)
        keeper.share(2, 0)
        self.assert_picture(keeper, ([None, -8, None], []))

    def test_share_refused(self):
        keeper = Keeper(3, 20, 10)
        keeper.make(0, 2)
        keeper.keep(1, 6)
        for hand in NO_HANDS:
            self.assert_keeper_refuses(keeper, NoHand, keeper.share, hand, 0)
            self.assert_keeper_refuses(keeper, NoHand, keeper.share, 0, hand)
            self.assert_keeper_refuses(keeper, NoHand, keeper.share, hand, hand)

    def test_drop(self):
        keeper = Keeper(3, 20, 10)
        keeper.make(0, 2)
        keeper.keep(1, 5)
        keeper.share(2, 0)
        for hand, wanted in [(0, [None, 5, "cell"]), (1, [None, None, "cell"]), (1, [None, None, "cell"])]:
            self.assertIsNone(keeper.drop(hand))
            self.assertEqual([keeper.read(hand) for hand in range(3)], wanted)
        self.assertEqual(keeper.used(), 3)

    def test_read(self):
        keeper = Keeper(3, 20, 4)
        self.assertIsNone(keeper.read(0))
        keeper.keep(0, 0)
        self.assert_whole(keeper.read(0), 0)
        keeper.make(1, 0)
        keeper.make(2, 8)
        self.assertEqual((keeper.read(1), keeper.read(2)), ("cell", "cell"))

    def test_drop_and_read_refused(self):
        keeper = Keeper(3, 20, 10)
        keeper.make(0, 2)
        for hand in NO_HANDS:
            self.assert_keeper_refuses(keeper, NoHand, keeper.drop, hand)
            self.assert_keeper_refuses(keeper, NoHand, keeper.read, hand)


class SlotsTest(KeeperTest):

    def test_put_and_take(self):
        keeper = Keeper(3, 40, 20)
        keeper.make(0, 3)
        keeper.make(1, 1)
        keeper.keep(2, 9)
        self.assertIsNone(keeper.put(0, 0, 1))
        self.assertIsNone(keeper.put(0, 2, 2))
        self.assertIsNone(keeper.put(1, 0, 0))
        self.assert_picture(keeper, ([("cell", 0), ("cell", 1), 9], [[("cell", 1), None, 9], [("cell", 0)]]))
        self.assertIsNone(keeper.take(2, 0, 0))
        self.assert_picture(keeper, ([("cell", 0), ("cell", 1), ("cell", 1)], [[("cell", 1), None, 9], [("cell", 0)]]))
        keeper.take(2, 0, 2)
        self.assertEqual(keeper.read(2), 9)
        keeper.take(2, 0, 1)
        self.assertIsNone(keeper.read(2))
        keeper.put(0, 0, 2)
        self.assert_picture(keeper, ([("cell", 0), ("cell", 1), None], [[None, None, 9], [("cell", 0)]]))

    def test_the_same_hand(self):
        keeper = Keeper(1, 40, 20)
        keeper.make(0, 2)
        keeper.put(0, 1, 0)
        self.assert_picture(keeper, ([("cell", 0)], [[None, ("cell", 0)]]))
        keeper.take(0, 0, 1)
        self.assert_picture(keeper, ([("cell", 0)], [[None, ("cell", 0)]]))
        keeper.take(0, 0, 0)
        self.assert_picture(keeper, ([None], []))

    def test_young_in_old(self):
        keeper = Keeper(2, 40, 4)
        keeper.make(0, 6)
        keeper.make(1, 2)
        keeper.put(0, 5, 1)
        self.assertEqual(keeper.heap.roots.book.places(), [6])
        self.assert_kept(keeper)
        keeper.drop(1)
        keeper.put(0, 5, 1)
        self.assertEqual(keeper.heap.roots.book.places(), [])
        self.assert_kept(keeper)

    def test_no_hand(self):
        keeper = Keeper(3, 20, 10)
        keeper.make(0, 2)
        for hand in NO_HANDS:
            # Ahead of hands that hold nothing, and of slots that are none.
            for other in [0, 1, hand]:
                for slot in [0, 2, None]:
                    self.assert_keeper_refuses(keeper, NoHand, keeper.take, hand, other, slot)
                    self.assert_keeper_refuses(keeper, NoHand, keeper.take, other, hand, slot)
                    self.assert_keeper_refuses(keeper, NoHand, keeper.put, hand, slot, other)
                    self.assert_keeper_refuses(keeper, NoHand, keeper.put, other, slot, hand)

    def test_nothing_held(self):
        keeper = Keeper(3, 20, 10)
        keeper.make(0, 2)
        keeper.keep(1, 0)
        for hand in [1, 2]:
            for slot in [0, 2, -1, None]:
                self.assert_keeper_refuses(keeper, NothingHeld, keeper.take, 0, hand, slot)
                self.assert_keeper_refuses(keeper, NothingHeld, keeper.put, hand, slot, 0)

    def test_no_slot(self):
        keeper = Keeper(3, 20, 10)
        keeper.make(0, 2)
        for slot in [-1, -2, 2, 3, 8, HUGE, -HUGE] + NOT_WHOLE:
            for other in range(3):
                self.assert_keeper_refuses(keeper, NoSlot, keeper.take, other, 0, slot)
                self.assert_keeper_refuses(keeper, NoSlot, keeper.put, 0, slot, other)
        keeper.make(1, 0)
        self.assert_keeper_refuses(keeper, NoSlot, keeper.take, 2, 1, 0)
        self.assert_keeper_refuses(keeper, NoSlot, keeper.put, 1, 0, 2)


class NamesTest(KeeperTest):

    def test_names(self):
        keeper = Keeper(3, 40, 20)
        keeper.make(0, 2)
        keeper.make(1, 1)
        self.assertEqual([keeper.name_cell(hand) for hand in [0, 1, 0]], [0, 1, 2])
        for name, wanted in [(0, [None, None]), (1, [None]), (2, [None, None])]:
            self.assertIs(keeper.find(name, 2), True)
            self.assertEqual(picture(keeper.heap.areas, keeper.heap.roots)[1][name % 2], wanted)
            self.assertEqual(keeper.heap.held(2), keeper.heap.held(name % 2))

    def test_a_reached_cell_is_found_behind_collections(self):
        keeper = Keeper(3, 40, 20)
        keeper.make(0, 2)
        keeper.make(1, 1)
        keeper.put(0, 1, 1)
        keeper.keep(2, 7)
        keeper.put(1, 0, 2)
        name = keeper.name_cell(1)
        keeper.drop(1)
        for collect in [keeper.tidy, keeper.tidy, keeper.tidy, keeper.tidy_all, keeper.tidy]:
            collect()
            self.assertIs(keeper.find(name, 2), True)
            self.assert_picture(keeper, ([("cell", 0), None, ("cell", 1)], [[None, ("cell", 1)], [7]]))
            keeper.drop(2)

    def test_one_that_nobody_reaches(self):
        for collect in [None, Keeper.tidy, Keeper.tidy_all]:
            keeper = Keeper(2, 40, 20)
            keeper.make(0, 2)
            keeper.make(1, 1)
            keeper.put(0, 1, 1)
            keeper.put(1, 0, 0)
            name = keeper.name_cell(0)
            keeper.drop(0)
            keeper.keep(1, 5)
            if collect is not None:
                collect(keeper)
            found = collect is None
            self.assertIs(keeper.find(name, 1), found)
            if found:
                self.assert_picture(keeper, ([None, ("cell", 0)], [[None, ("cell", 1)], [("cell", 0)]]))
            else:
                # It held a number ahead; now it holds nothing.
                self.assert_picture(keeper, ([None, None], []))
            self.assert_kept(keeper)

    def test_an_old_one_that_nobody_reaches(self):
        keeper = Keeper(2, 40, 4)
        keeper.make(0, 5)
        keeper.make(1, 2)
        keeper.put(0, 4, 1)
        name, inner = keeper.name_cell(0), keeper.name_cell(1)
        keeper.drop(0)
        keeper.drop(1)
        for many in range(4):
            # No young collection meets it gone, nor what it holds.
            keeper.tidy()
            self.assertIs(keeper.find(name, 0), True)
            self.assert_picture(keeper, ([("cell", 0), None], [[None] * 4 + [("cell", 1)], [None, None]]))
            self.assertIs(keeper.find(inner, 0), True)
            keeper.drop(0)
        keeper.tidy_all()
        self.assertIs(keeper.find(name, 0), False)
        self.assertIs(keeper.find(inner, 0), False)

    def test_held_anew_by_its_name(self):
        keeper = Keeper(2, 40, 20)
        keeper.make(0, 2)
        name = keeper.name_cell(0)
        keeper.drop(0)
        keeper.find(name, 1)
        keeper.tidy()
        keeper.tidy_all()
        self.assertIs(keeper.find(name, 0), True)
        self.assert_picture(keeper, ([("cell", 0), ("cell", 0)], [[None, None]]))

    def test_gone_for_ever(self):
        keeper = Keeper(2, 40, 20)
        keeper.make(0, 2)
        name = keeper.name_cell(0)
        keeper.drop(0)
        keeper.tidy()
        for many in range(5):
            self.assertIs(keeper.find(name, 1), False)
            # A new cell lies where it lay, with a name of its own.
            keeper.make(0, 2)
            self.assertEqual(keeper.name_cell(0), many + 1)
            keeper.tidy()
        self.assertIs(keeper.find(5, 1), True)

    def test_gone_by_a_collection_of_make(self):
        keeper = Keeper(2, 40, 4)
        keeper.make(0, 2)
        name = keeper.name_cell(0)
        keeper.drop(0)
        self.assertIs(keeper.find(name, 0), True)
        keeper.drop(0)
        keeper.make(0, 3)
        self.assertIs(keeper.find(name, 1), False)
        self.assertEqual((keeper.read(0), keeper.read(1)), ("cell", None))

    def test_name_refused(self):
        keeper = Keeper(3, 20, 10)
        keeper.make(0, 2)
        keeper.keep(1, 0)
        for hand in NO_HANDS:
            self.assert_keeper_refuses(keeper, NoHand, keeper.name_cell, hand)
        for hand in [1, 2]:
            self.assert_keeper_refuses(keeper, NothingHeld, keeper.name_cell, hand)
        self.assertEqual(keeper.name_cell(0), 0)

    def test_find_refused(self):
        keeper = Keeper(3, 20, 10)
        keeper.make(0, 2)
        keeper.keep(1, 4)
        for hand in NO_HANDS:
            for name in [0, 1, -1, None]:
                self.assert_keeper_refuses(keeper, NoHand, keeper.find, name, hand)
        self.assert_keeper_refuses(keeper, NoName, keeper.find, 0, 1)
        keeper.name_cell(0)
        keeper.name_cell(0)
        for name in [-1, -2, 2, 3, HUGE, -HUGE] + NOT_WHOLE:
            self.assert_keeper_refuses(keeper, NoName, keeper.find, name, 1)


class LastsTest(KeeperTest):

    def test_said_once_in_order(self):
        keeper = Keeper(3, 40, 20)
        keeper.make(0, 0)
        keeper.make(1, 0)
        for hand, number in [(0, 1), (1, -2), (0, 3), (1, 0), (0, MOST_NUMBER)]:
            self.assertIsNone(keeper.give_last(hand, number))
        self.assertEqual(keeper.said(), [])
        keeper.drop(1)
        self.assertEqual(keeper.said(), [])
        keeper.tidy()
        self.assertEqual(keeper.said(), [-2, 0])
        keeper.drop(0)
        keeper.tidy()
        keeper.tidy_all()
        self.assertEqual(keeper.said(), [-2, 0, 1, 3, MOST_NUMBER])
        keeper.tidy_all()
        self.assertEqual(keeper.said(), [-2, 0, 1, 3, MOST_NUMBER])

    def test_of_an_old_cell(self):
        keeper = Keeper(1, 40, 4)
        keeper.make(0, 7)
        keeper.give_last(0, -MOST_NUMBER)
        keeper.drop(0)
        keeper.tidy()
        self.assertEqual(keeper.said(), [])
        keeper.tidy_all()
        self.assertEqual(keeper.said(), [-MOST_NUMBER])

    def test_of_a_moved_cell(self):
        keeper = Keeper(1, 40, 4)
        keeper.make(0, 2)
        keeper.give_last(0, 8)
        for collect in [keeper.tidy, keeper.tidy, keeper.tidy, keeper.tidy_all]:
            collect()
            self.assertEqual(keeper.said(), [])
        keeper.drop(0)
        keeper.tidy_all()
        self.assertEqual(keeper.said(), [8])

    def test_said_is_a_list_of_its_own(self):
        keeper = Keeper(1, 40, 4)
        keeper.make(0, 0)
        keeper.give_last(0, 8)
        ahead = keeper.said()
        keeper.drop(0)
        keeper.tidy()
        told = keeper.said()
        told.append(9)
        self.assertEqual((ahead, keeper.said()), ([], [8]))

    def test_refused(self):
        keeper = Keeper(3, 20, 10)
        keeper.make(0, 2)
        keeper.keep(1, 0)
        for hand in NO_HANDS:
            for number in [0, MOST_NUMBER + 1, None]:
                self.assert_keeper_refuses(keeper, NoHand, keeper.give_last, hand, number)
        for hand in [1, 2]:
            for number in [0, MOST_NUMBER + 1, None]:
                self.assert_keeper_refuses(keeper, NothingHeld, keeper.give_last, hand, number)
        for number in NO_NUMBERS:
            self.assert_keeper_refuses(keeper, BadNumber, keeper.give_last, 0, number)


class TidyTest(KeeperTest):

    def test_tidy(self):
        keeper = Keeper(2, 40, 10)
        keeper.make(0, 2)
        keeper.make(0, 1)
        keeper.make(1, 1)
        self.assertIsNone(keeper.tidy())
        self.assert_cells(keeper, {}, {50: (1, [NOTHING]), 52: (1, [NOTHING])})
        self.assert_whole(keeper.used(), 4)
        keeper.make(1, 0)
        self.assertIsNone(keeper.tidy())
        self.assert_cells(keeper, {0: (2, [NOTHING])}, {40: (1, [])})
        self.assert_whole(keeper.used(), 3)

    def test_tidy_all(self):
        keeper = Keeper(2, 40, 4)
        keeper.make(0, 4)
        keeper.make(0, 5)
        keeper.make(1, 1)
        self.assertIsNone(keeper.tidy_all())
        self.assert_cells(keeper, {0: (2, [NOTHING] * 5), 6: (2, [NOTHING])}, {})
        self.assert_whole(keeper.used(), 8)

    def test_empty(self):
        keeper = Keeper(1, 4, 2)
        self.assertIsNone(keeper.tidy())
        self.assertIsNone(keeper.tidy_all())
        self.assert_whole(keeper.used(), 0)
        self.assert_kept(keeper)

    def test_nothing_changes_what_hands_reach(self):
        keeper = Keeper(2, 40, 10)
        keeper.make(0, 3)
        keeper.make(1, 2)
        keeper.put(0, 0, 1)
        keeper.put(1, 1, 0)
        ahead = picture(keeper.heap.areas, keeper.heap.roots)
        for collect in [keeper.tidy, keeper.tidy, keeper.tidy_all, keeper.tidy]:
            collect()
            self.assert_picture(keeper, ahead)


class UnsoundTest(KeeperTest):

    def keeper(self):
        keeper = Keeper(2, 20, 4)
        keeper.make(0, 4)
        keeper.make(1, 2)
        keeper.put(0, 3, 1)
        return keeper

    def test_sound(self):
        keeper = self.keeper()
        told = keeper.unsound()
        self.assertEqual(told, [])
        told.append("walk")
        self.assertEqual(keeper.unsound(), [])

    def test_written_into_otherwise(self):
        for wanted, write in [
            (["walk"], lambda heap: heap.areas.memory.write(0, NOTHING)),
            (["walk"], lambda heap: heap.areas.young.cut(21)),
            (["stray"], lambda heap: heap.hold(0, place_word(7))),
            (["stray"], lambda heap: heap.roots.weaks.name(9999)),
            (["stray"], lambda heap: heap.roots.lasts.give(21, 5)),
            (["book"], lambda heap: heap.roots.book.clear()),
            (["book"], lambda heap: heap.areas.memory.write(4, number_word(5))),
            (["age"], lambda heap: aged(heap.areas.memory, 20, 2)),
        ]:
            keeper = self.keeper()
            write(keeper.heap)
            self.assertEqual(keeper.unsound(), wanted)
            self.assertEqual(keeper.unsound(), wanted)

    def test_room(self):
        keeper = Keeper(2, 4, 10)
        keeper.heap.make(0, 5)
        self.assertEqual(keeper.unsound(), ["room"])

    def test_as_it_is_when_asked(self):
        keeper = self.keeper()
        keeper.heap.roots.book.write(1)
        self.assertEqual(keeper.unsound(), ["book"])
        keeper.heap.roots.book.rub(1)
        self.assertEqual(keeper.unsound(), [])
        keeper.heap.areas = World(2, 20, 4).areas
        self.assertEqual(keeper.unsound(), ["stray", "book"])


class Model:
    """What a keeper's hands are to hold, told by Python's own lists; it knows no places."""

    def __init__(self, hands, old_words):
        self.hands = [None] * hands
        self.old_words = old_words
        self.named = []
        self.given = []
        self.lost = []

    def reached(self):
        met = []
        coming = list(self.hands)
        while coming:
            thing = coming.pop(0)
            if isinstance(thing, list) and not any(cell is thing for cell in met):
                met.append(thing)
                coming += thing
        return met

    def words(self):
        return sum(len(cell) + 1 for cell in self.reached())

    def is_reached(self, cell):
        return any(other is cell for other in self.reached())

    def picture(self):
        cells = self.reached()
        numbers = {id(cell): number for number, cell in enumerate(cells)}

        def shown(thing):
            return ("cell", numbers[id(thing)]) if isinstance(thing, list) else thing

        return ([shown(thing) for thing in self.hands], [[shown(thing) for thing in cell] for cell in cells])


class ManyDeedsTest(KeeperTest):

    def make(self, rng, keeper, model):
        hand, slots = rng.randrange(len(model.hands)), rng.randint(0, 8)
        if model.words() + slots + 1 > model.old_words:
            self.assert_refused(NoRoom, keeper.make, hand, slots)
            return "refused"
        keeper.make(hand, slots)
        model.hands[hand] = [None] * slots
        return "made"

    def put(self, rng, keeper, model):
        hand, other = rng.randrange(len(model.hands)), rng.randrange(len(model.hands))
        if not isinstance(model.hands[hand], list) or model.hands[hand] == []:
            return "passed"
        slot = rng.randrange(len(model.hands[hand]))
        keeper.put(hand, slot, other)
        model.hands[hand][slot] = model.hands[other]
        return "put"

    def take(self, rng, keeper, model):
        hand, other = rng.randrange(len(model.hands)), rng.randrange(len(model.hands))
        if not isinstance(model.hands[other], list) or model.hands[other] == []:
            return "passed"
        slot = rng.randrange(len(model.hands[other]))
        keeper.take(hand, other, slot)
        model.hands[hand] = model.hands[other][slot]
        return "taken"

    def hold(self, rng, keeper, model):
        hand, other = rng.randrange(len(model.hands)), rng.randrange(len(model.hands))
        number = rng.randint(-99, 99)
        deed = rng.choice(["keep", "share", "drop", "young", "all"])
        if deed == "keep":
            keeper.keep(hand, number)
            model.hands[hand] = number
        elif deed == "share":
            keeper.share(hand, other)
            model.hands[hand] = model.hands[other]
        elif deed == "drop":
            keeper.drop(hand)
            model.hands[hand] = None
        elif rng.random() < 0.3:
            keeper.tidy() if deed == "young" else keeper.tidy_all()
        return deed

    def name(self, rng, keeper, model):
        hand = rng.randrange(len(model.hands))
        if not isinstance(model.hands[hand], list):
            return "passed"
        self.assertEqual(keeper.name_cell(hand), len(model.named))
        model.named.append(model.hands[hand])
        keeper.give_last(hand, len(model.given))
        model.given.append(model.hands[hand])
        return "named"

    def find(self, rng, keeper, model):
        if not model.named:
            return "passed"
        name, hand = rng.randrange(len(model.named)), rng.randrange(len(model.hands))
        reached = model.is_reached(model.named[name])
        found = keeper.find(name, hand)
        if name in model.lost:
            self.assertIs(found, False)
        elif reached:
            self.assertIs(found, True)
        model.hands[hand] = model.named[name] if found else None
        if not found:
            model.lost.append(name)
        return "found" if found else "gone"

    def test_many_deeds(self):
        done = {}
        for seed in range(60):
            rng = random.Random(seed)
            hands, old, young = rng.randint(1, 6), rng.randint(10, 90), rng.randint(2, 40)
            keeper, model = Keeper(hands, old, young), Model(hands, old)
            for many in range(120):
                deed = rng.choice([self.make, self.make, self.put, self.put, self.take, self.hold, self.name, self.find])
                told = deed(rng, keeper, model)
                done[told] = done.get(told, 0) + 1
                self.assert_picture(keeper, model.picture())
                self.assert_kept(keeper)
                said = keeper.said()
                self.assertEqual(len(set(said)), len(said))
                self.assertEqual([number for number in said if model.is_reached(model.given[number])], [])
            keeper.tidy_all()
            self.assertEqual(sorted(keeper.said()), [
                number for number, cell in enumerate(model.given) if not model.is_reached(cell)
            ])
        # Else the deeds would have shown too little.
        self.assertEqual([told for told in done if done[told] < 40], [], done)
