"""[8], [9]: copying a cell into a space, as far as a collection needs it."""

from cellkeep.cells import age_of, aged, children, lay, send, sent_to, slots_of, words_of
from cellkeep.copying import copied, moved
from cellkeep.errors import BadCount, NoCell, NoPlace, NoRoom
from cellkeep.memory import Memory
from cellkeep.spaces import Space
from cellkeep.words import NOTHING, number_word, place_word
from tests.helper import HUGE, NOT_WHOLE, KeepTest, memory_of, words_in

NO_AGES = [-1, 3, 4, HUGE, -HUGE] + NOT_WHOLE
SLOT_WORDS = [place_word(3), number_word(8), NOTHING, number_word(-9), place_word(0), 2 * 10 ** 12, 19999, 0]


def filled(size):
    return memory_of([2 * at + 1 for at in range(size)])


def with_cell(slots, age=0):
    """A memory of 40 words with a cell at place 5, its slots full, and a used space from 20 on."""
    memory = filled(40)
    lay(memory, 5, slots)
    aged(memory, 5, age)
    for slot in range(slots):
        memory.write(6 + slot, SLOT_WORDS[slot])
    space = Space(20, 40)
    space.take(3)
    return memory, space


class CopiedTest(KeepTest):

    def assert_copy_refused(self, memory, space, error, at, age):
        ahead = (space.begin, space.end, space.top)
        self.assert_refused_unchanged(memory, error, copied, memory, at, space, age)
        self.assertEqual((space.begin, space.end, space.top), ahead)

    def test_each_size_and_age(self):
        for slots in range(9):
            for before in range(3):
                for age in range(3):
                    with self.subTest(slots=slots, before=before, age=age):
                        memory, space = with_cell(slots, before)
                        wanted = words_in(memory)
                        wanted[23:24 + slots] = [number_word(4 * slots + age)] + wanted[6:6 + slots]
                        wanted[5] = place_word(23)
                        self.assert_whole(copied(memory, 5, space, age), 23)
                        self.assertEqual(words_in(memory), wanted)
                        self.assertEqual((space.begin, space.end, space.top), (20, 40, 24 + slots))

    def test_what_is_told_of_both(self):
        memory, space = with_cell(5, 1)
        ahead = children(memory, 5)
        goal = copied(memory, 5, space, 2)
        self.assertEqual(sent_to(memory, 5), goal)
        self.assertIsNone(sent_to(memory, goal))
        self.assertEqual((slots_of(memory, goal), age_of(memory, goal)), (5, 2))
        self.assertEqual(children(memory, goal), ahead)
        self.assertEqual(space.has(goal), True)

    def test_the_old_head_is_no_cell_any_more(self):
        memory, space = with_cell(2)
        copied(memory, 5, space, 1)
        for call in [slots_of, age_of, words_of, children]:
            self.assert_refused_unchanged(memory, NoCell, call, memory, 5)
        self.assert_refused_unchanged(memory, NoCell, aged, memory, 5, 0)
        self.assert_refused_unchanged(memory, NoCell, send, memory, 5, 0)

    def test_several_one_behind_the_other(self):
        memory = Memory(30)
        young, spare = Space(0, 12), Space(12, 30)
        for slots in [2, 0, 4]:
            lay(memory, young.take(slots + 1), slots)
        self.assertEqual([copied(memory, at, spare, 1) for at in [4, 0, 3]], [12, 17, 20])
        self.assertEqual(spare.cells(memory), [12, 17, 20])
        self.assertEqual([slots_of(memory, at) for at in [12, 17, 20]], [4, 2, 0])
        self.assertEqual([sent_to(memory, at) for at in [0, 3, 4]], [17, 20, 12])
        self.assertEqual(young.top, 9)

    def test_a_copy_is_copied_again(self):
        memory, space = with_cell(1)
        goal = copied(memory, 5, space, 1)
        other = Space(0, 5)
        self.assertEqual(copied(memory, goal, other, 2), 0)
        self.assertEqual((sent_to(memory, 5), sent_to(memory, goal)), (goal, 0))
        self.assertEqual((slots_of(memory, 0), age_of(memory, 0), memory.read(1)), (1, 2, SLOT_WORDS[0]))

    def test_a_cell_that_holds_itself(self):
        memory, space = with_cell(1)
        memory.write(6, place_word(5))
        goal = copied(memory, 5, space, 1)
        # The slots go as they are; who copies looks after the places in them.
        self.assertEqual(children(memory, goal), [5])

    def test_just_fitting_and_not(self):
        for slots in range(9):
            memory, space = with_cell(slots)
            tight = Space(20, 21 + slots)
            self.assertEqual(copied(memory, 5, tight, 1), 20)
            self.assertEqual(tight.room(), 0)
            memory, space = with_cell(slots)
            small = Space(20, 20 + slots)
            self.assert_copy_refused(memory, small, NoRoom, 5, 1)
            used = Space(20, 21 + slots)
            used.take(1)
            self.assert_copy_refused(memory, used, NoRoom, 5, 1)

    def test_up_to_the_end_of_the_memory(self):
        memory = Memory(6)
        lay(memory, 0, 2)
        self.assertEqual(copied(memory, 0, Space(3, 6), 1), 3)
        self.assertEqual(words_in(memory), [place_word(3), -1, -1, number_word(9), -1, -1])

    def test_no_place_ahead_of_all_others(self):
        memory, space = with_cell(2)
        for at in [-1, -40, 40, 41, 9999, HUGE, -HUGE] + NOT_WHOLE:
            for age in [0, 3, None]:
                self.assert_copy_refused(memory, space, NoPlace, at, age)
                self.assert_copy_refused(memory, Space(20, 20), NoPlace, at, age)

    def test_no_cell_ahead_of_no_age_and_no_room(self):
        memory, space = with_cell(3)
        memory.write(10, NOTHING)
        memory.write(11, number_word(3))
        memory.write(12, number_word(35))
        memory.write(13, number_word(-4))
        memory.write(39, number_word(4))
        for at in [10, 11, 12, 13, 39]:
            for age in [0, 3, None]:
                self.assert_copy_refused(memory, space, NoCell, at, age)
                self.assert_copy_refused(memory, Space(20, 20), NoCell, at, age)

    def test_a_cell_that_was_sent_on_is_refused(self):
        memory, space = with_cell(3)
        copied(memory, 5, space, 1)
        for age in [0, 1, 2, 3, None]:
            self.assert_copy_refused(memory, space, NoCell, 5, age)
            self.assert_copy_refused(memory, Space(20, 20), NoCell, 5, age)

    def test_no_age_ahead_of_no_room(self):
        memory, space = with_cell(3)
        for age in NO_AGES:
            self.assert_copy_refused(memory, space, BadCount, 5, age)
            self.assert_copy_refused(memory, Space(20, 23), BadCount, 5, age)

    def test_parameters(self):
        self.assert_parameters(copied, ["memory", "at", "space", "age"])
        self.assert_parameters(moved, ["memory", "word"])


class MovedTest(KeepTest):

    def test_of_a_cell_that_was_sent_on(self):
        for goal in [0, 5, 23, 9999]:
            memory = Memory(10)
            lay(memory, 4, 2)
            send(memory, 4, goal)
            self.assert_whole(moved(memory, place_word(4)), place_word(goal))

    def test_of_a_copied_cell(self):
        memory, space = with_cell(2)
        goal = copied(memory, 5, space, 1)
        self.assertEqual(moved(memory, place_word(5)), place_word(goal))
        self.assertEqual(moved(memory, place_word(goal)), place_word(goal))

    def test_one_step_alone(self):
        memory = Memory(10)
        for at, goal in [(0, 4), (4, 8)]:
            lay(memory, at, 1)
            send(memory, at, goal)
        self.assertEqual(moved(memory, place_word(0)), place_word(4))

    def test_of_a_cell_that_was_not(self):
        for slots in range(9):
            memory = Memory(20)
            lay(memory, 4, slots)
            self.assert_whole(moved(memory, place_word(4)), place_word(4))
        lay(memory, 0, 0)
        self.assertEqual(moved(memory, place_word(0)), place_word(0))

    def test_of_numbers_and_nothing(self):
        memory = Memory(10)
        lay(memory, 4, 2)
        send(memory, 4, 7)
        for word in [0, 2, 8, -8, 2 * 10 ** 12, -2 * 10 ** 12, NOTHING]:
            self.assert_whole(moved(memory, word), word)

    def test_nothing_is_changed(self):
        memory, space = with_cell(2)
        copied(memory, 5, space, 1)
        ahead = words_in(memory)
        for word in [place_word(5), place_word(23), number_word(5), NOTHING]:
            moved(memory, word)
        self.assertEqual(words_in(memory), ahead)
