"""[5]: spaces."""

from cellkeep.cells import lay
from cellkeep.errors import BadCount, NoRoom
from cellkeep.memory import Memory
from cellkeep.spaces import Space
from tests.helper import HUGE, NOT_WHOLE, KeepTest, words_in

NO_COUNTS = [0, -1, -2, -HUGE] + NOT_WHOLE


def fields(space):
    return (space.begin, space.end, space.top)


class SpaceCase(KeepTest):

    def assert_space_refuses(self, space, error, call, *args):
        ahead = fields(space)
        self.assert_refused(error, call, *args)
        self.assertEqual(fields(space), ahead)


class SpaceTest(SpaceCase):

    def test_fields_at_first(self):
        for begin, end in [(0, 0), (0, 1), (0, 10), (3, 3), (7, 12), (20, 4000)]:
            with self.subTest(begin=begin, end=end):
                space = Space(begin, end)
                self.assert_whole(space.begin, begin)
                self.assert_whole(space.end, end)
                self.assert_whole(space.top, begin)

    def test_parameters(self):
        space = Space(0, 1)
        self.assert_parameters(Space, ["begin", "end"])
        for call in [space.room, space.used, space.empty]:
            self.assert_parameters(call, [])
        self.assert_parameters(space.has, ["at"])
        self.assert_parameters(space.take, ["many"])
        self.assert_parameters(space.cut, ["top"])
        self.assert_parameters(space.cells, ["memory"])

    def test_room_and_used(self):
        space = Space(5, 12)
        told = [(space.room(), space.used())]
        for many in [2, 4, 1]:
            space.take(many)
            told.append((space.room(), space.used()))
        self.assertEqual(told, [(7, 0), (5, 2), (1, 6), (0, 7)])
        self.assert_whole(space.room(), 0)
        self.assert_whole(space.used(), 7)

    def test_a_space_of_no_words(self):
        for begin in [0, 4]:
            space = Space(begin, begin)
            self.assertEqual((space.room(), space.used()), (0, 0))
            self.assertEqual([space.has(at) for at in [begin - 1, begin, begin + 1]], [False] * 3)
            self.assert_space_refuses(space, NoRoom, space.take, 1)
            self.assertIsNone(space.cut(begin))
            self.assert_space_refuses(space, BadCount, space.cut, begin + 1)
            self.assert_space_refuses(space, BadCount, space.cut, begin - 1)
            self.assertEqual(space.cells(Memory(9)), [])


class HasTest(KeepTest):

    def assert_has(self, space, wanted):
        told = [space.has(at) for at in range(-2, 16)]
        self.assertEqual(told, [at in wanted for at in range(-2, 16)])
        for answer in told:
            self.assertIsInstance(answer, bool)

    def test_of_an_empty_a_partly_used_and_a_full_space(self):
        space = Space(5, 12)
        self.assert_has(space, [])
        space.take(3)
        self.assert_has(space, [5, 6, 7])
        space.take(4)
        self.assert_has(space, [5, 6, 7, 8, 9, 10, 11])
        space.cut(6)
        self.assert_has(space, [5])
        space.empty()
        self.assert_has(space, [])

    def test_from_place_nought_on(self):
        space = Space(0, 4)
        self.assert_has(space, [])
        space.take(4)
        self.assert_has(space, [0, 1, 2, 3])

    def test_far_off(self):
        space = Space(5, 12)
        space.take(3)
        for at in [9999, 10000, HUGE, -HUGE]:
            self.assertIs(space.has(at), False)


class TakeTest(SpaceCase):

    def test_one_word_after_another(self):
        space = Space(5, 8)
        for at in [5, 6, 7]:
            self.assert_whole(space.take(1), at)
            self.assertEqual(fields(space), (5, 8, at + 1))
        self.assert_space_refuses(space, NoRoom, space.take, 1)

    def test_all(self):
        space = Space(5, 12)
        self.assertEqual(space.take(7), 5)
        self.assertEqual(fields(space), (5, 12, 12))

    def test_all_of_the_rest(self):
        space = Space(5, 12)
        self.assertEqual([space.take(2), space.take(5)], [5, 7])
        self.assertEqual(fields(space), (5, 12, 12))

    def test_one_more_than_all(self):
        space = Space(5, 12)
        self.assert_space_refuses(space, NoRoom, space.take, 8)
        self.assert_space_refuses(space, NoRoom, space.take, HUGE)
        space.take(3)
        self.assert_space_refuses(space, NoRoom, space.take, 5)
        self.assertEqual(space.take(4), 8)

    def test_no_count(self):
        space = Space(5, 12)
        space.take(3)
        for many in NO_COUNTS:
            self.assert_space_refuses(space, BadCount, space.take, many)

    def test_no_count_ahead_of_no_room(self):
        for space in [Space(5, 5), Space(0, 2)]:
            while space.room():
                space.take(1)
            for many in NO_COUNTS:
                self.assert_space_refuses(space, BadCount, space.take, many)


class EmptyAndCutTest(SpaceCase):

    def test_empty(self):
        for many in [1, 3, 7]:
            space = Space(5, 12)
            space.take(many)
            self.assertIsNone(space.empty())
            self.assertEqual(fields(space), (5, 12, 5))
            self.assertEqual(space.take(7), 5)
        space = Space(5, 12)
        self.assertIsNone(space.empty())
        self.assertEqual(fields(space), (5, 12, 5))

    def test_cut_to_each_place(self):
        for taken in [0, 3, 7]:
            for top in range(5, 13):
                space = Space(5, 12)
                if taken:
                    space.take(taken)
                self.assertIsNone(space.cut(top))
                self.assertEqual(fields(space), (5, 12, top))
                self.assertEqual((space.room(), space.used()), (12 - top, top - 5))
                if top < 12:
                    self.assertEqual(space.take(1), top)

    def test_no_top(self):
        space = Space(5, 12)
        space.take(3)
        for top in [4, 13, 0, -1, -5, HUGE, -HUGE] + NOT_WHOLE:
            self.assert_space_refuses(space, BadCount, space.cut, top)
        start = Space(0, 2)
        for top in [-1, 3, True, False]:
            self.assert_space_refuses(start, BadCount, start.cut, top)


class CellsTest(KeepTest):

    def laid(self, memory, space, sizes):
        places = []
        for slots in sizes:
            at = space.take(slots + 1)
            lay(memory, at, slots)
            places.append(at)
        return places

    def test_none(self):
        memory = Memory(20)
        self.assertEqual(Space(5, 12).cells(memory), [])
        # Cells that lie beyond the top don't count.
        lay(memory, 5, 2)
        self.assertEqual(Space(5, 12).cells(memory), [])

    def test_one(self):
        for slots in range(9):
            memory = Memory(20)
            space = Space(5, 14)
            self.assertEqual(self.laid(memory, space, [slots]), [5])
            self.assertEqual(space.cells(memory), [5])

    def test_several_in_order(self):
        memory = Memory(40)
        space = Space(2, 30)
        self.laid(memory, space, [0, 3, 8, 0, 0, 1, 8])
        self.assertEqual(space.cells(memory), [2, 3, 7, 16, 17, 18, 20])
        space.cut(17)
        self.assertEqual(space.cells(memory), [2, 3, 7, 16])

    def test_of_a_full_space_at_the_end_of_its_memory(self):
        memory = Memory(9)
        space = Space(4, 9)
        self.laid(memory, space, [1, 2])
        self.assertEqual(space.cells(memory), [4, 6])

    def test_slots_that_look_like_heads_are_none(self):
        memory = Memory(12)
        space = Space(0, 12)
        self.laid(memory, space, [3, 1])
        for place in [1, 2, 3, 5]:
            memory.write(place, 8 * 8)
        self.assertEqual(space.cells(memory), [0, 4])

    def test_each_list_is_new_and_stays(self):
        memory = Memory(20)
        space = Space(0, 20)
        self.laid(memory, space, [1, 2])
        told = space.cells(memory)
        told.append(9)
        self.assertEqual(space.cells(memory), [0, 2])
        told = space.cells(memory)
        self.laid(memory, space, [0])
        self.assertEqual(told, [0, 2])
        self.assertEqual(space.cells(memory), [0, 2, 5])

    def test_nothing_is_changed(self):
        memory = Memory(20)
        space = Space(0, 20)
        self.laid(memory, space, [1, 2])
        ahead = words_in(memory)
        space.cells(memory)
        self.assertEqual(words_in(memory), ahead)
        self.assertEqual(fields(space), (0, 20, 5))

    def test_two_spaces_on_one_memory(self):
        memory = Memory(20)
        one, other = Space(0, 10), Space(10, 20)
        self.laid(memory, one, [1, 2])
        self.assertEqual(fields(other), (10, 20, 10))
        self.assertEqual(other.cells(memory), [])
        self.laid(memory, other, [0, 3])
        self.assertEqual(one.cells(memory), [0, 2])
        self.assertEqual(other.cells(memory), [10, 11])
        one.empty()
        self.assertEqual(fields(other), (10, 20, 15))
        other.cut(11)
        self.assertEqual(fields(one), (0, 10, 0))
        same, again = Space(0, 10), Space(0, 10)
        same.take(4)
        self.assertEqual(fields(again), (0, 10, 0))
