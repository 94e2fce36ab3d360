"""[3]: memories."""

from cellkeep.errors import BadCount, BadWord, NoPlace
from cellkeep.memory import Memory
from tests.helper import HUGE, NO_WORDS, NOT_WHOLE, KeepTest, memory_of, words_in


class SizeTest(KeepTest):

    def test_sizes(self):
        for size in [1, 2, 3, 100, 3999, 4000]:
            with self.subTest(size):
                memory = Memory(size)
                self.assert_whole(memory.size, size)
                # Not the whole lists: Python takes very long to show how long ones differ.
                self.assertEqual(set(words_in(memory)), {-1})
                self.assert_refused(NoPlace, memory.read, size)

    def test_no_sizes(self):
        for size in [0, -1, -4000, 4001, 10 ** 12, HUGE, -HUGE]:
            self.assert_refused(BadCount, Memory, size)

    def test_no_whole_number(self):
        for thing in NOT_WHOLE:
            with self.subTest(repr(thing)):
                self.assert_refused(BadCount, Memory, thing)

    def test_two_memories_have_nothing_in_common(self):
        one, other = Memory(4), Memory(4)
        one.write(0, 8)
        self.assertEqual(words_in(other), [-1] * 4)
        other.write(3, 5)
        other.copy(3, 1, 1)
        self.assertEqual(words_in(one), [8, -1, -1, -1])
        self.assertEqual(words_in(other), [-1, 5, -1, 5])

    def test_parameters(self):
        self.assert_parameters(Memory, ["size"])
        self.assert_parameters(Memory(1).read, ["at"])
        self.assert_parameters(Memory(1).write, ["at", "word"])
        self.assert_parameters(Memory(1).copy, ["start", "goal", "many"])


class ReadAndWriteTest(KeepTest):

    def test_each_sort_of_word(self):
        memory = Memory(3)
        for word in [0, 2, -2, 1, 19999, 2 * 10 ** 12, -2 * 10 ** 12, -1]:
            self.assertIsNone(memory.write(1, word))
            self.assert_whole(memory.read(1), word)
            self.assertEqual(words_in(memory), [-1, word, -1])

    def test_first_and_last_place(self):
        for size in [1, 2, 7, 4000]:
            with self.subTest(size):
                memory = Memory(size)
                memory.write(0, 6)
                memory.write(size - 1, 9)
                self.assertTrue(words_in(memory) == ([6] + [-1] * size)[:size - 1] + [9])

    def test_reading_changes_nothing(self):
        memory = memory_of([2, 1, -1])
        self.assertEqual([memory.read(1), memory.read(1)], [1, 1])
        self.assertEqual(words_in(memory), [2, 1, -1])

    def test_no_place(self):
        memory = memory_of([2, 1, -1])
        for at in [-1, -3, 3, 4, 9999, 10000, HUGE, -HUGE] + NOT_WHOLE:
            self.assert_refused_unchanged(memory, NoPlace, memory.read, at)
            self.assert_refused_unchanged(memory, NoPlace, memory.write, at, 4)

    def test_no_word(self):
        memory = memory_of([2, 1, -1])
        for word in NO_WORDS:
            for at in range(3):
                self.assert_refused_unchanged(memory, BadWord, memory.write, at, word)

    def test_no_place_ahead_of_no_word(self):
        memory = memory_of([2, 1, -1])
        for at in [-1, 3, None, True]:
            for word in NO_WORDS:
                self.assert_refused_unchanged(memory, NoPlace, memory.write, at, word)


class CopyTest(KeepTest):

    def assert_copies(self, start, goal, many, wanted):
        memory = memory_of([0, 2, 4, 6, 8, 10])
        self.assertIsNone(memory.copy(start, goal, many))
        self.assertEqual(words_in(memory), wanted)

    def test_apart(self):
        self.assert_copies(0, 4, 2, [0, 2, 4, 6, 0, 2])
        self.assert_copies(4, 0, 2, [8, 10, 4, 6, 8, 10])
        self.assert_copies(5, 0, 1, [10, 2, 4, 6, 8, 10])

    def test_touching(self):
        self.assert_copies(0, 3, 3, [0, 2, 4, 0, 2, 4])
        self.assert_copies(3, 0, 3, [6, 8, 10, 6, 8, 10])

    def test_sharing_places_goal_behind(self):
        self.assert_copies(0, 1, 5, [0, 0, 2, 4, 6, 8])
        self.assert_copies(1, 3, 3, [0, 2, 4, 2, 4, 6])

    def test_sharing_places_goal_ahead(self):
        self.assert_copies(1, 0, 5, [2, 4, 6, 8, 10, 10])
        self.assert_copies(3, 1, 3, [0, 6, 8, 10, 8, 10])

    def test_onto_itself(self):
        self.assert_copies(0, 0, 6, [0, 2, 4, 6, 8, 10])
        self.assert_copies(2, 2, 3, [0, 2, 4, 6, 8, 10])

    def test_all_short_stretches(self):
        ahead = [0, 2, 4, 6, 8, 10]
        for many in range(7):
            for start in range(7 - many):
                for goal in range(7 - many):
                    stretch = ahead[start:start + many]
                    self.assert_copies(start, goal, many, ahead[:goal] + stretch + ahead[goal + many:])

    def test_none_at_the_end(self):
        for start, goal in [(6, 6), (6, 0), (0, 6), (3, 6), (6, 5)]:
            self.assert_copies(start, goal, 0, [0, 2, 4, 6, 8, 10])

    def test_each_sort_of_word(self):
        memory = memory_of([-1, 19999, 2 * 10 ** 12, 0, 0, 0])
        memory.copy(0, 3, 3)
        self.assertEqual(words_in(memory), [-1, 19999, 2 * 10 ** 12] * 2)

    def test_sticking_out(self):
        memory = memory_of([0, 2, 4, 6, 8, 10])
        for start, goal, many in [
            (1, 0, 6), (0, 1, 6), (5, 0, 2), (0, 5, 2), (6, 0, 1), (0, 6, 1), (0, 0, 7), (0, 0, HUGE),
            (7, 0, 0), (0, 7, 0), (-1, 0, 0), (0, -1, 0), (-1, 0, 1), (0, -1, 1), (-1, 0, 2), (0, -1, 2),
            (HUGE, 0, 0), (0, HUGE, 0), (-HUGE, 0, HUGE), (0, -HUGE, HUGE),
        ]:
            self.assert_refused_unchanged(memory, NoPlace, memory.copy, start, goal, many)

    def test_no_place(self):
        memory = memory_of([0, 2, 4, 6, 8, 10])
        for thing in NOT_WHOLE:
            for many in [0, 1, 7]:
                self.assert_refused_unchanged(memory, NoPlace, memory.copy, thing, 0, many)
                self.assert_refused_unchanged(memory, NoPlace, memory.copy, 0, thing, many)

    def test_no_count(self):
        memory = memory_of([0, 2, 4, 6, 8, 10])
        for many in [-1, -2, -6, -HUGE] + NOT_WHOLE:
            self.assert_refused_unchanged(memory, BadCount, memory.copy, 0, 3, many)

    def test_no_count_ahead_of_no_place(self):
        memory = memory_of([0, 2, 4, 6, 8, 10])
        for many in [-1, -HUGE] + NOT_WHOLE:
            for start, goal in [(-1, 0), (0, 7), (None, 0), (0, True), (7, 7)]:
                self.assert_refused_unchanged(memory, BadCount, memory.copy, start, goal, many)
