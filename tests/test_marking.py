"""[9], [11]: which cells are met."""

from cellkeep.cells import lay
from cellkeep.marking import reached
from cellkeep.memory import Memory
from cellkeep.words import NOTHING, number_word, place_word
from tests.helper import KeepTest, words_in


def graph(*rows):
    """A memory with cells of eight words from place 0 on; each row tells a cell's children."""
    memory = Memory(8 * len(rows))
    for at, row in enumerate(rows):
        lay(memory, 8 * at, 7)
        for slot, child in enumerate(row):
            memory.write(8 * at + 1 + slot, place_word(8 * child))
    return memory


def met(memory, *starts):
    return [at // 8 for at in reached(memory, [8 * start for start in starts])]


class ReachedTest(KeepTest):

    def test_parameters(self):
        self.assert_parameters(reached, ["memory", "starts"])

    def test_no_starts(self):
        self.assertEqual(reached(graph([0]), []), [])

    def test_one_start(self):
        memory = graph([], [], [])
        self.assertEqual(reached(memory, [8]), [8])
        self.assert_whole(reached(memory, [0])[0], 0)

    def test_several_starts_in_their_order(self):
        self.assertEqual(met(graph([], [], []), 2, 0, 1), [2, 0, 1])

    def test_one_start_twice(self):
        self.assertEqual(met(graph([], [], []), 1, 1), [1])
        self.assertEqual(met(graph([2], [], []), 1, 0, 1, 0), [1, 0, 2])

    def test_who_is_not_met(self):
        self.assertEqual(met(graph([1], [], [0, 1, 3], [2]), 0), [0, 1])

    def test_a_cell_that_holds_itself(self):
        self.assertEqual(met(graph([0]), 0), [0])
        self.assertEqual(met(graph([0, 1, 0], [1]), 0), [0, 1])

    def test_cells_that_hold_one_another(self):
        self.assertEqual(met(graph([1], [0]), 1), [1, 0])
        self.assertEqual(met(graph([1], [2], [0]), 2), [2, 0, 1])

    def test_all_starts_ahead_of_all_children(self):
        self.assertEqual(met(graph([2], [3], [], []), 0, 1), [0, 1, 2, 3])
        self.assertEqual(met(graph([1], [3], [], []), 0, 2, 1), [0, 2, 1, 3])

    def test_the_cell_that_was_met_first_ahead_of_the_next(self):
        self.assertEqual(met(graph([5, 2], [], [1, 5], [], [0], [3, 4]), 0), [0, 5, 2, 3, 4, 1])
        self.assertEqual(met(graph([3, 1], [4], [], [2, 4], []), 0), [0, 3, 1, 2, 4])

    def test_children_in_order_each_once(self):
        self.assertEqual(met(graph([3, 1, 3, 2, 1, 0], [], [], []), 0), [0, 3, 1, 2])

    def test_numbers_and_nothing_lead_nowhere(self):
        memory = graph([], [], [])
        memory.write(1, number_word(8))
        memory.write(2, NOTHING)
        memory.write(3, number_word(16))
        self.assertEqual(reached(memory, [0]), [0])

    def test_cells_of_many_sizes(self):
        memory = Memory(20)
        for at, slots in [(0, 0), (1, 8), (10, 1), (12, 0)]:
            lay(memory, at, slots)
        memory.write(9, place_word(0))
        memory.write(2, place_word(10))
        memory.write(11, place_word(12))
        self.assertEqual(reached(memory, [1]), [1, 10, 0, 12])

    def test_a_long_chain(self):
        memory = Memory(4000)
        for at in range(0, 4000, 2):
            lay(memory, at, 1)
            memory.write(at + 1, place_word((at + 2) % 4000))
        self.assertTrue(reached(memory, [6]) == list(range(6, 4000, 2)) + [0, 2, 4])

    def test_the_list_is_new_and_nothing_is_changed(self):
        memory = graph([1], [0])
        ahead = words_in(memory)
        starts = [0, 0]
        told = reached(memory, starts)
        self.assertEqual(starts, [0, 0])
        self.assertEqual(words_in(memory), ahead)
        told.append(5)
        self.assertEqual(reached(memory, starts), [0, 8])
        told = reached(memory, starts)
        starts.append(8)
        memory.write(1, NOTHING)
        self.assertEqual(told, [0, 8])
        alone = [0]
        self.assertIsNot(reached(memory, alone), alone)
