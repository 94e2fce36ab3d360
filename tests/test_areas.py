"""[6]: areas."""

from cellkeep.areas import Areas
from cellkeep.cells import age_of, slots_of
from cellkeep.errors import BadCount, NoRoom
from cellkeep.memory import Memory
from cellkeep.spaces import Space
from tests.helper import HUGE, NO_COUNTS_OF_SLOTS, NOT_WHOLE, KeepTest, words_in


def bounds(space):
    return (space.begin, space.end, space.top)


def all_bounds(areas):
    return [bounds(space) for space in [areas.old, areas.young, areas.spare]]


def fill(areas):
    """Writes a place's word everywhere, so that each word that is written over can be told."""
    for at in range(areas.memory.size):
        areas.memory.write(at, 2 * at + 1)


class SizesTest(KeepTest):

    def test_where_they_lie(self):
        for old, young in [(4, 2), (4, 500), (2000, 2), (2000, 500), (5, 3), (30, 10), (7, 100)]:
            with self.subTest(old=old, young=young):
                areas = Areas(old, young)
                self.assertEqual(all_bounds(areas), [
                    (0, old, 0), (old, old + young, old), (old + young, old + 2 * young, old + young),
                ])
                self.assert_whole(areas.memory.size, old + 2 * young)
                self.assertEqual(set(words_in(areas.memory)), {-1})

    def test_kinds(self):
        areas = Areas(4, 2)
        self.assertIsInstance(areas.memory, Memory)
        for space in [areas.old, areas.young, areas.spare]:
            self.assertIsInstance(space, Space)

    def test_no_old_words(self):
        for old in [3, 2001, 0, -1, -4, HUGE, -HUGE] + NOT_WHOLE:
            for young in [2, 500, 1]:
                self.assert_refused(BadCount, Areas, old, young)

    def test_no_young_words(self):
        for young in [1, 501, 0, -1, -2, HUGE, -HUGE] + NOT_WHOLE:
            for old in [4, 2000, 3]:
                self.assert_refused(BadCount, Areas, old, young)

    def test_parameters(self):
        areas = Areas(4, 2)
        self.assert_parameters(Areas, ["old_words", "young_words"])
        self.assert_parameters(areas.flip, [])
        self.assert_parameters(areas.area_of, ["at"])
        self.assert_parameters(areas.lay_young, ["slots"])
        self.assert_parameters(areas.lay_old, ["slots"])

    def test_two_areas_have_nothing_in_common(self):
        one, other = Areas(10, 5), Areas(10, 5)
        one.lay_old(2)
        one.lay_young(1)
        one.flip()
        self.assertEqual(all_bounds(other), [(0, 10, 0), (10, 15, 10), (15, 20, 15)])
        self.assertEqual(words_in(other.memory), [-1] * 20)


class FlipTest(KeepTest):

    def test_once_and_twice(self):
        areas = Areas(10, 5)
        areas.lay_old(3)
        areas.lay_young(2)
        old, young, spare, memory = areas.old, areas.young, areas.spare, areas.memory
        ahead = words_in(memory)
        self.assertIsNone(areas.flip())
        self.assertEqual(all_bounds(areas), [(0, 10, 4), (15, 20, 15), (10, 15, 13)])
        self.assertIs(areas.young, spare)
        self.assertIs(areas.spare, young)
        self.assertIsNone(areas.flip())
        self.assertEqual(all_bounds(areas), [(0, 10, 4), (10, 15, 13), (15, 20, 15)])
        self.assertIs(areas.old, old)
        self.assertIs(areas.memory, memory)
        self.assertEqual(words_in(memory), ahead)


class AreaOfTest(KeepTest):

    def assert_areas(self, areas, old, young):
        for at in range(-3, areas.memory.size + 3):
            wanted = "old" if at in old else "young" if at in young else None
            self.assertEqual(areas.area_of(at), wanted, at)

    def test_of_none(self):
        self.assert_areas(Areas(10, 5), [], [])

    def test_the_used_parts_alone(self):
        areas = Areas(10, 5)
        areas.lay_old(3)
        self.assert_areas(areas, range(4), [])
        areas.lay_young(1)
        self.assert_areas(areas, range(4), range(10, 12))
        areas.lay_young(0)
        areas.spare.take(2)
        self.assert_areas(areas, range(4), range(10, 13))

    def test_full(self):
        areas = Areas(4, 2)
        areas.lay_old(3)
        areas.lay_young(1)
        areas.spare.take(2)
        self.assert_areas(areas, range(4), range(4, 6))

    def test_behind_a_flip(self):
        areas = Areas(10, 5)
        areas.lay_old(3)
        areas.lay_young(1)
        areas.flip()
        self.assert_areas(areas, range(4), [])
        areas.lay_young(2)
        self.assert_areas(areas, range(4), range(15, 18))
        areas.flip()
        self.assert_areas(areas, range(4), range(10, 12))

    def test_far_off(self):
        areas = Areas(10, 5)
        areas.lay_old(8)
        for at in [9999, 10000, HUGE, -HUGE]:
            self.assertIsNone(areas.area_of(at))

    def test_nothing_is_changed(self):
        areas = Areas(10, 5)
        areas.lay_old(3)
        ahead = (all_bounds(areas), words_in(areas.memory))
        areas.area_of(2)
        areas.area_of(10)
        self.assertEqual((all_bounds(areas), words_in(areas.memory)), ahead)


class LayTest(KeepTest):

    def assert_areas_refuse(self, areas, error, call, *args):
        ahead = all_bounds(areas)
        self.assert_refused_unchanged(areas.memory, error, call, *args)
        self.assertEqual(all_bounds(areas), ahead)

    def test_old_cells(self):
        for slots in range(9):
            areas = Areas(20, 10)
            fill(areas)
            ahead = words_in(areas.memory)
            self.assert_whole(areas.lay_old(slots), 0)
            self.assertEqual(all_bounds(areas), [(0, 20, slots + 1), (20, 30, 20), (30, 40, 30)])
            self.assertEqual(age_of(areas.memory, 0), 2)
            cell = [2 * (4 * slots + 2)] + [-1] * slots
            self.assertEqual(words_in(areas.memory), cell + ahead[slots + 1:])

    def test_young_cells(self):
        for slots in range(9):
            areas = Areas(20, 10)
            fill(areas)
            ahead = words_in(areas.memory)
            self.assert_whole(areas.lay_young(slots), 20)
            self.assertEqual(all_bounds(areas), [(0, 20, 0), (20, 30, 21 + slots), (30, 40, 30)])
            self.assertEqual(age_of(areas.memory, 20), 0)
            cell = [2 * 4 * slots] + [-1] * slots
            self.assertEqual(words_in(areas.memory), ahead[:20] + cell + ahead[21 + slots:])

    def test_one_behind_the_other(self):
        areas = Areas(20, 10)
        self.assertEqual([areas.lay_old(slots) for slots in [3, 0, 8]], [0, 4, 5])
        self.assertEqual([areas.lay_young(slots) for slots in [0, 2, 4]], [20, 21, 24])
        self.assertEqual(areas.old.cells(areas.memory), [0, 4, 5])
        self.assertEqual(areas.young.cells(areas.memory), [20, 21, 24])
        self.assertEqual([slots_of(areas.memory, at) for at in [0, 4, 5, 20, 21, 24]], [3, 0, 8, 0, 2, 4])

    def test_young_cells_behind_a_flip(self):
        areas = Areas(20, 10)
        areas.lay_young(1)
        areas.flip()
        self.assertEqual(areas.lay_young(3), 30)
        areas.flip()
        self.assertEqual(areas.lay_young(3), 22)

    def test_just_fitting_and_not(self):
        areas = Areas(9, 5)
        self.assert_areas_refuse(areas, NoRoom, areas.lay_young, 5)
        self.assertEqual(areas.lay_young(4), 9)
        self.assert_areas_refuse(areas, NoRoom, areas.lay_young, 0)
        self.assertEqual(areas.lay_old(8), 0)
        self.assert_areas_refuse(areas, NoRoom, areas.lay_old, 0)
        again = Areas(9, 5)
        again.lay_old(0)
        self.assert_areas_refuse(again, NoRoom, again.lay_old, 8)
        self.assertEqual(again.lay_old(7), 1)

    def test_no_room_though_other_spaces_have_some(self):
        areas = Areas(4, 2)
        areas.lay_old(3)
        self.assert_areas_refuse(areas, NoRoom, areas.lay_old, 0)
        self.assertEqual(areas.lay_young(1), 4)
        areas = Areas(4, 2)
        areas.lay_young(1)
        self.assert_areas_refuse(areas, NoRoom, areas.lay_young, 0)
        self.assertEqual(areas.lay_old(3), 0)

    def test_no_count(self):
        areas = Areas(20, 12)
        fill(areas)
        for slots in NO_COUNTS_OF_SLOTS:
            self.assert_areas_refuse(areas, BadCount, areas.lay_old, slots)
            self.assert_areas_refuse(areas, BadCount, areas.lay_young, slots)

    def test_no_count_ahead_of_no_room(self):
        areas = Areas(4, 2)
        areas.lay_old(3)
        areas.lay_young(1)
        for slots in NO_COUNTS_OF_SLOTS:
            self.assert_areas_refuse(areas, BadCount, areas.lay_old, slots)
            self.assert_areas_refuse(areas, BadCount, areas.lay_young, slots)
