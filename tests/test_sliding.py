"""[11]: whole collections."""

from cellkeep.cells import words_of
from cellkeep.sliding import collect_all, goals
from cellkeep.words import NOTHING, number_word, place_word
from cellkeep.young import collect_young
from tests.helper import CollectTest, World, places

# In a World old is 0 to 59, the one half 60 to 89, the other one 90 to 119.
ONE, TWO, THREE = number_word(1), number_word(2), number_word(3)


def mixed_world():
    """Old cells at 0, 2, 6, 7 and young ones at 60, 63, 64."""
    world = World()
    for words in [[ONE], [ONE, TWO, THREE], [], [TWO]]:
        world.old(*words)
    for words in [[TWO, TWO], [], [ONE]]:
        world.young(*words)
    return world


class GoalsTest(CollectTest):

    def assert_goals(self, world, kept, wanted):
        ahead = (list(kept), world.state())
        told = goals(world.areas, kept)
        self.assertEqual(told.__class__, dict)
        self.assertEqual(told, wanted)
        self.assertEqual((kept, world.state()), ahead)

    def test_parameters(self):
        self.assert_parameters(goals, ["areas", "kept"])

    def test_none(self):
        self.assert_goals(World(), [], {})
        self.assert_goals(mixed_world(), [], {})

    def test_all(self):
        self.assert_goals(mixed_world(), [0, 2, 6, 7, 60, 63, 64], {
            0: 0, 2: 2, 6: 6, 7: 7, 60: 9, 63: 12, 64: 13,
        })

    def test_some(self):
        self.assert_goals(mixed_world(), [2, 7], {2: 0, 7: 4})
        self.assert_goals(mixed_world(), [0, 6], {0: 0, 6: 2})
        self.assert_goals(mixed_world(), [6, 64], {6: 0, 64: 1})
        self.assert_goals(mixed_world(), [63, 64], {63: 0, 64: 1})
        self.assert_goals(mixed_world(), [60], {60: 0})

    def test_in_any_order(self):
        wanted = {2: 0, 7: 4, 60: 6, 64: 9}
        for kept in [[2, 7, 60, 64], [64, 60, 7, 2], [60, 7, 64, 2], [7, 64, 2, 60]]:
            self.assert_goals(mixed_world(), kept, wanted)

    def test_behind_a_flip(self):
        world = mixed_world()
        world.areas.young.empty()
        world.areas.flip()
        self.assertEqual([world.young(ONE, TWO), world.young()], [90, 93])
        self.assert_goals(world, [93, 6, 90, 0], {0: 0, 6: 2, 90: 3, 93: 6})
        self.assert_goals(world, [93], {93: 0})

    def test_none_overlap_and_none_goes_beyond_its_place_in_old(self):
        cells = [0, 2, 6, 7, 60, 63, 64]
        for chosen in range(2 ** len(cells)):
            world = mixed_world()
            kept = [at for bit, at in enumerate(cells) if chosen >> bit & 1]
            told = goals(world.areas, kept)
            self.assertEqual(sorted(told), kept)
            end = 0
            for at in kept:
                self.assertEqual(told[at], end)
                end += words_of(world.memory, at)
                if at < 60:
                    self.assertLessEqual(told[at], at)

    def test_each_dict_is_new_and_stays(self):
        world = mixed_world()
        kept = [2, 7]
        told = goals(world.areas, kept)
        told[9] = 9
        self.assertEqual(goals(world.areas, kept), {2: 0, 7: 4})
        told = goals(world.areas, kept)
        kept.append(0)
        world.areas.old.empty()
        self.assertEqual(told, {2: 0, 7: 4})


class WholeTest(CollectTest):

    def collect(self, world):
        """Collects, and looks at what holds behind each collection."""
        areas = world.areas
        spaces = [areas.old, areas.young, areas.spare, areas.memory]
        self.assert_fits(world)
        told = collect_all(areas, world.roots)
        self.assert_whole(told, areas.old.used())
        for ahead, behind in zip(spaces, [areas.old, areas.young, areas.spare, areas.memory]):
            self.assertIs(ahead, behind)
        self.assertEqual((areas.young.used(), areas.spare.used()), (0, 0))
        self.assertEqual(world.roots.book.places(), [])
        self.assert_fits(world)
        return told

    def old_cells(self, world):
        return world.cells(world.areas.old)


class KeptTest(WholeTest):

    def test_parameters(self):
        self.assert_parameters(collect_all, ["areas", "roots"])

    def test_nothing_there(self):
        world = World()
        self.assertEqual(self.collect(world), 0)
        self.assertEqual(world.tables(), ([NOTHING] * 3, [], [], [], []))
        self.assertEqual(world.tops(), [(0, 60, 0), (60, 90, 60), (90, 120, 90)])

    def test_all_are_gone(self):
        world = mixed_world()
        world.put(0, 0, place_word(60))
        world.put(60, 0, place_word(0))
        world.hold(ONE, number_word(60))
        self.assertEqual(self.collect(world), 0)
        self.assertEqual(world.roots.hands.row(), [ONE, number_word(60), NOTHING])
        self.assertEqual(world.tops(), [(0, 60, 0), (60, 90, 60), (90, 120, 90)])

    def test_all_stay(self):
        world = World()
        one = world.old(ONE, NOTHING)
        two = world.old(place_word(one), TWO)
        world.put(one, 1, place_word(two))
        world.hold(place_word(two))
        ahead = self.old_cells(world)
        self.assertEqual(self.collect(world), 6)
        self.assertEqual(self.old_cells(world), ahead)
        self.assertEqual(world.roots.hands.row()[0], place_word(two))

    def test_old_cells_slide_by_their_places(self):
        world = mixed_world()
        world.hold(*places(7, 2, 7))
        self.assertEqual(self.collect(world), 6)
        self.assertEqual(self.old_cells(world), {0: (2, [ONE, TWO, THREE]), 4: (2, [TWO])})
        self.assertEqual(world.roots.hands.row(), places(4, 0, 4))

    def test_young_cells_behind_old_ones_by_their_places(self):
        world = mixed_world()
        world.hold(*places(64, 60, 6))
        self.assertEqual(self.collect(world), 6)
        self.assertEqual(self.old_cells(world), {0: (2, []), 1: (2, [TWO, TWO]), 4: (2, [ONE])})
        self.assertEqual(world.roots.hands.row(), places(4, 1, 0))

    def test_all_ages_become_two(self):
        world = World()
        world.hold(place_word(world.young(ONE)), place_word(world.young(TWO, age=1)), place_word(world.old(THREE)))
        self.assertEqual(self.collect(world), 6)
        self.assertEqual(self.old_cells(world), {0: (2, [THREE]), 2: (2, [ONE]), 4: (2, [TWO])})

    def test_not_in_the_order_in_which_they_are_met(self):
        world = World()
        leaf = world.old(ONE)
        last = world.old(place_word(leaf))
        world.hold(place_word(last))
        self.assertEqual(self.collect(world), 4)
        self.assertEqual(self.old_cells(world), {0: (2, [ONE]), 2: (2, [place_word(0)])})

    def test_slots_tell_the_new_places(self):
        world = mixed_world()
        world.put(2, 0, place_word(64))
        world.put(2, 2, place_word(7))
        world.put(64, 0, place_word(2))
        world.put(7, 0, place_word(7))
        world.hold(NOTHING, place_word(64))
        self.assertEqual(self.collect(world), 8)
        self.assertEqual(self.old_cells(world), {
            0: (2, [place_word(6), TWO, place_word(4)]), 4: (2, [place_word(4)]), 6: (2, [place_word(0)]),
        })
        self.assertEqual(world.roots.hands.row(), [NOTHING, place_word(6), NOTHING])

    def test_what_only_the_book_leads_to_is_gone(self):
        world = mixed_world()
        world.put(0, 0, place_word(60))
        world.hold(place_word(6))
        self.assertEqual(world.roots.book.places(), [1])
        self.assertEqual(self.collect(world), 1)
        self.assertEqual(self.old_cells(world), {0: (2, [])})

    def test_slides_by_one_word_share_places(self):
        world = World()
        world.old()
        one = world.old(*[number_word(n) for n in range(8)])
        two = world.old(*[number_word(-n) for n in range(8)])
        world.hold(*places(one, two))
        self.assertEqual(self.collect(world), 18)
        self.assertEqual(self.old_cells(world), {
            0: (2, [number_word(n) for n in range(8)]), 9: (2, [number_word(-n) for n in range(8)]),
        })

    def test_old_is_full_then(self):
        world = World(old_words=9, young_words=5)
        world.old(ONE)
        kept = world.old(TWO, place_word(9), NOTHING)
        young = world.young(place_word(kept), THREE, ONE, TWO)
        world.put(kept, 1, place_word(young))
        world.hold(place_word(kept))
        self.assertEqual(self.collect(world), 9)
        self.assertEqual(self.old_cells(world), {
            0: (2, [TWO, place_word(4), NOTHING]), 4: (2, [place_word(0), THREE, ONE, TWO]),
        })

    def test_numbers_that_look_like_places_are_let_be(self):
        world = mixed_world()
        world.put(7, 0, number_word(7))
        world.hold(place_word(7), number_word(7), number_word(15))
        self.collect(world)
        self.assertEqual(self.old_cells(world), {0: (2, [number_word(7)])})
        self.assertEqual(world.roots.hands.row(), [place_word(0), number_word(7), number_word(15)])

    def test_behind_a_flip(self):
        world = mixed_world()
        world.hold(*places(64, 6))
        collect_young(world.areas, world.roots)
        self.assertEqual(world.roots.hands.row()[0], place_word(90))
        self.assertEqual(self.collect(world), 3)
        self.assertEqual(self.old_cells(world), {0: (2, []), 1: (2, [ONE])})
        self.assertEqual(world.tops(), [(0, 60, 3), (90, 120, 90), (60, 90, 60)])


class NamesAndTicketsTest(WholeTest):

    def test_they_go_along(self):
        world = mixed_world()
        world.hold(*places(64, 7))
        for at in [7, 64, 7]:
            world.roots.weaks.name(at)
            world.roots.lasts.give(at, 100 + at)
        self.collect(world)
        self.assertEqual(world.roots.weaks.names(), [(0, 0), (1, 2), (2, 0)])
        self.assertEqual(world.roots.lasts.pending(), [(0, 0, 107), (1, 2, 164), (2, 0, 107)])
        self.assertEqual(world.roots.lasts.said(), [])

    def test_of_those_not_met(self):
        world = mixed_world()
        world.hold(place_word(2))
        for at, number in [(64, 5), (2, 6), (7, 7), (0, -8), (60, 9)]:
            world.roots.weaks.name(at)
            world.roots.lasts.give(at, number)
        world.roots.lasts.say(2)
        self.collect(world)
        self.assertEqual(world.roots.weaks.names(), [(1, 0)])
        self.assertEqual([world.roots.weaks.at(name) for name in range(5)], [None, 0, None, None, None])
        self.assertEqual(world.roots.lasts.pending(), [(1, 0, 6)])
        self.assertEqual(world.roots.lasts.said(), [7, 5, -8, 9])

    def test_a_name_of_a_gone_cell_does_not_go_over_to_the_one_that_comes_there(self):
        world = mixed_world()
        world.hold(place_word(2))
        world.roots.weaks.name(0)
        world.roots.lasts.give(0, 4)
        self.collect(world)
        self.assertEqual(self.old_cells(world), {0: (2, [ONE, TWO, THREE])})
        self.assertIsNone(world.roots.weaks.at(0))
        self.assertEqual((world.roots.lasts.pending(), world.roots.lasts.said()), ([], [4]))


class AgainTest(WholeTest):

    def test_behind_further_changes(self):
        world = mixed_world()
        world.hold(*places(64, 2))
        self.assertEqual(self.collect(world), 6)
        fresh = world.young(place_word(0))
        self.assertEqual(fresh, 60)
        world.put(4, 0, place_word(fresh))
        world.roots.weaks.name(fresh)
        self.assertEqual(world.roots.book.places(), [5])
        self.assertEqual(self.collect(world), 8)
        self.assertEqual(self.old_cells(world), {
            0: (2, [ONE, TWO, THREE]), 4: (2, [place_word(6)]), 6: (2, [place_word(0)]),
        })
        world.hold(place_word(4))
        world.put(6, 0, NOTHING)
        self.assertEqual(self.collect(world), 4)
        self.assertEqual(self.old_cells(world), {0: (2, [place_word(2)]), 2: (2, [NOTHING])})
        self.assertEqual(world.roots.weaks.names(), [(0, 2)])
        self.assertEqual(self.collect(world), 4)
        world.hold()
        self.assertEqual(self.collect(world), 0)
        self.assertIsNone(world.roots.weaks.at(0))
