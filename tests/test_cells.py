"""[4]: cells."""

from cellkeep.cells import (
    MOST_SLOTS, age_of, aged, children, lay, send, sent_to, slot_place, slots_of, words_of,
)
from cellkeep.errors import BadCount, NoCell, NoPlace, NoSlot
from cellkeep.memory import Memory
from tests.helper import HUGE, NOT_WHOLE, KeepTest, memory_of, words_in

NO_PLACES = [-1, -2, -20, 20, 21, 9999, 10000, HUGE, -HUGE] + NOT_WHOLE

# Each deed that wants a cell that was not sent on, with things for what it takes besides:
# such as are right, and such as are wrong.
WANTING_A_CELL = [
    (slots_of, [()]),
    (age_of, [()]),
    (words_of, [()]),
    (children, [()]),
    (aged, [(0,), (2,), (3,), (-1,), (None,), (True,)]),
    (slot_place, [(0,), (7,), (8,), (-1,), (None,), (True,)]),
    (send, [(0,), (9999,), (10000,), (-1,), (None,), (True,)]),
]


def filled(size):
    """A memory of places' words, so that each word that is written over can be told."""
    return memory_of([2 * at + 1 for at in range(size)])


class LayTest(KeepTest):

    def test_most_slots(self):
        self.assert_whole(MOST_SLOTS, 8)

    def test_words_of_a_laid_cell(self):
        for slots in range(9):
            with self.subTest(slots):
                memory = filled(20)
                self.assertIsNone(lay(memory, 5, slots))
                cell = [8 * slots] + [-1] * slots
                ahead = words_in(filled(20))
                self.assertEqual(words_in(memory), ahead[:5] + cell + ahead[5 + len(cell):])

    def test_what_is_told_of_a_laid_cell(self):
        for slots in range(9):
            with self.subTest(slots):
                memory = filled(20)
                lay(memory, 5, slots)
                self.assert_whole(slots_of(memory, 5), slots)
                self.assert_whole(age_of(memory, 5), 0)
                self.assert_whole(words_of(memory, 5), slots + 1)
                self.assertEqual(children(memory, 5), [])
                self.assertIsNone(sent_to(memory, 5))

    def test_just_fitting(self):
        for slots in range(9):
            with self.subTest(slots):
                memory = filled(20)
                lay(memory, 19 - slots, slots)
                self.assertEqual(words_in(memory)[19 - slots:], [8 * slots] + [-1] * slots)
                self.assertEqual(slots_of(memory, 19 - slots), slots)
                whole = filled(slots + 1)
                lay(whole, 0, slots)
                self.assertEqual(words_in(whole), [8 * slots] + [-1] * slots)

    def test_sticking_out(self):
        for slots in range(9):
            memory = filled(20)
            for at in range(20 - slots, 23):
                self.assert_refused_unchanged(memory, NoPlace, lay, memory, at, slots)
        whole = filled(8)
        self.assert_refused_unchanged(whole, NoPlace, lay, whole, 0, 8)

    def test_no_place(self):
        memory = filled(20)
        for at in NO_PLACES:
            for slots in [0, 8]:
                self.assert_refused_unchanged(memory, NoPlace, lay, memory, at, slots)

    def test_no_count_ahead_of_no_place(self):
        memory = filled(20)
        for slots in [-1, 9, 10, HUGE, -HUGE] + NOT_WHOLE:
            for at in [0, 19, 20, -1, None, True]:
                self.assert_refused_unchanged(memory, BadCount, lay, memory, at, slots)

    def test_over_other_cells_and_sent_ones(self):
        memory = Memory(4)
        lay(memory, 0, 3)
        aged(memory, 0, 2)
        memory.write(1, 6)
        lay(memory, 0, 1)
        self.assertEqual(words_in(memory), [8, -1, -1, -1])
        send(memory, 0, 3)
        lay(memory, 0, 0)
        self.assertEqual(words_in(memory), [0, -1, -1, -1])

    def test_parameters(self):
        self.assert_parameters(lay, ["memory", "at", "slots"])
        self.assert_parameters(aged, ["memory", "at", "age"])
        self.assert_parameters(slot_place, ["memory", "at", "slot"])
        self.assert_parameters(send, ["memory", "at", "goal"])
        for call in [slots_of, age_of, words_of, children, sent_to]:
            self.assert_parameters(call, ["memory", "at"])


class HeadTest(KeepTest):

    def test_each_head(self):
        for slots in range(9):
            for age in range(3):
                with self.subTest(slots=slots, age=age):
                    memory = Memory(12)
                    memory.write(2, 2 * (4 * slots + age))
                    self.assert_whole(slots_of(memory, 2), slots)
                    self.assert_whole(age_of(memory, 2), age)
                    self.assert_whole(words_of(memory, 2), slots + 1)
                    self.assertIsNone(sent_to(memory, 2))

    def test_ages(self):
        for slots in range(9):
            memory = filled(20)
            lay(memory, 5, slots)
            for age in [0, 1, 2, 1, 0, 2, 2, 0]:
                ahead = words_in(memory)
                self.assertIsNone(aged(memory, 5, age))
                self.assert_whole(age_of(memory, 5), age)
                self.assert_whole(slots_of(memory, 5), slots)
                self.assertEqual(words_in(memory), ahead[:5] + [2 * (4 * slots + age)] + ahead[6:])

    def test_no_age(self):
        memory = filled(20)
        lay(memory, 5, 3)
        aged(memory, 5, 1)
        for age in [-1, 3, 4, HUGE, -HUGE] + NOT_WHOLE:
            self.assert_refused_unchanged(memory, BadCount, aged, memory, 5, age)


class SlotTest(KeepTest):

    def test_places_of_slots(self):
        for slots in range(1, 9):
            memory = filled(20)
            lay(memory, 4, slots)
            ahead = words_in(memory)
            self.assertEqual([slot_place(memory, 4, slot) for slot in range(slots)], list(range(5, 5 + slots)))
            self.assertEqual(words_in(memory), ahead)
        self.assert_whole(slot_place(memory, 4, 0), 5)

    def test_at_the_ends_of_the_memory(self):
        memory = Memory(9)
        lay(memory, 0, 8)
        self.assertEqual([slot_place(memory, 0, 0), slot_place(memory, 0, 7)], [1, 8])

    def test_no_slot(self):
        for slots in range(9):
            memory = filled(20)
            lay(memory, 4, slots)
            for slot in [-1, slots, slots + 1, HUGE, -HUGE] + NOT_WHOLE:
                self.assert_refused_unchanged(memory, NoSlot, slot_place, memory, 4, slot)


class ChildrenTest(KeepTest):

    def test_in_order_and_as_often_as_they_stand_there(self):
        memory = memory_of([8 * 8, 7, 1, 7, -1, 6, 19999, 3, 7, 11])
        self.assertEqual(children(memory, 0), [3, 0, 3, 9999, 1, 3])

    def test_numbers_and_nothing_are_none(self):
        memory = memory_of([8 * 4, 0, 2, -2, -1, 5])
        self.assertEqual(children(memory, 0), [])

    def test_only_its_own_slots(self):
        memory = memory_of([5, 8 * 2, 1, 3, 5])
        self.assertEqual(children(memory, 1), [0, 1])
        self.assertEqual(children(memory_of([0, 5]), 0), [])

    def test_of_any_age(self):
        memory = memory_of([8, 7])
        for age in range(3):
            aged(memory, 0, age)
            self.assertEqual(children(memory, 0), [3])

    def test_each_list_is_new_and_stays(self):
        memory = memory_of([8 * 2, 7, 9])
        told = children(memory, 0)
        told.append(0)
        self.assertEqual(children(memory, 0), [3, 4])
        told = children(memory, 0)
        memory.write(1, 11)
        send(memory, 0, 1)
        self.assertEqual(told, [3, 4])


class SendTest(KeepTest):

    def test_sent_on(self):
        for goal in [0, 1, 5, 19, 20, 4000, 9999]:
            with self.subTest(goal):
                memory = filled(20)
                lay(memory, 5, 3)
                memory.write(6, 14)
                ahead = words_in(memory)
                self.assertIsNone(send(memory, 5, goal))
                self.assert_whole(sent_to(memory, 5), goal)
                self.assertEqual(words_in(memory), ahead[:5] + [2 * goal + 1] + ahead[6:])

    def test_of_each_size_and_age(self):
        for slots in range(9):
            for age in range(3):
                memory = Memory(9)
                lay(memory, 0, slots)
                aged(memory, 0, age)
                self.assertIsNone(sent_to(memory, 0))
                send(memory, 0, 2)
                self.assertEqual(sent_to(memory, 0), 2)

    def test_no_goal(self):
        memory = filled(20)
        lay(memory, 5, 3)
        for goal in [-1, 10000, HUGE, -HUGE] + NOT_WHOLE:
            self.assert_refused_unchanged(memory, NoPlace, send, memory, 5, goal)
            self.assertIsNone(sent_to(memory, 5))

    def test_a_cell_that_was_sent_on_is_none_for_all_others(self):
        memory = Memory(20)
        lay(memory, 5, 8)
        send(memory, 5, 9)
        for call, rests in WANTING_A_CELL:
            for rest in rests:
                with self.subTest(call=call, rest=rest):
                    self.assert_refused_unchanged(memory, NoCell, call, memory, 5, *rest)
        self.assertEqual(sent_to(memory, 5), 9)


class NoCellTest(KeepTest):

    def assert_no_cell(self, memory, at):
        for call, rests in WANTING_A_CELL:
            for rest in rests:
                with self.subTest(call=call, at=at, rest=rest):
                    self.assert_refused_unchanged(memory, NoCell, call, memory, at, *rest)
        self.assert_refused_unchanged(memory, NoCell, sent_to, memory, at)

    def test_nothing_stands_there(self):
        memory = Memory(20)
        for at in [0, 5, 19]:
            self.assert_no_cell(memory, at)

    def test_numbers_that_are_no_heads(self):
        heads = [4 * slots + age for slots in range(9) for age in range(3)]
        others = [n for n in range(-50, 100) if n not in heads] + [10 ** 12, -10 ** 12]
        for n in others:
            memory = Memory(20)
            memory.write(5, 2 * n)
            self.assert_no_cell(memory, 5)

    def test_behind_a_head(self):
        memory = Memory(20)
        lay(memory, 5, 3)
        for at in [4, 6, 7, 8, 9]:
            self.assert_no_cell(memory, at)

    def test_a_head_whose_slots_would_stick_out(self):
        for slots in range(1, 9):
            memory = Memory(20)
            memory.write(20 - slots, 8 * slots)
            self.assert_no_cell(memory, 20 - slots)

    def test_no_place_ahead_of_all_others(self):
        memory = Memory(20)
        lay(memory, 0, 3)
        for at in NO_PLACES:
            for call, rests in WANTING_A_CELL:
                for rest in rests:
                    self.assert_refused_unchanged(memory, NoPlace, call, memory, at, *rest)
            self.assert_refused_unchanged(memory, NoPlace, sent_to, memory, at)
