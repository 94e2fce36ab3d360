"""[8], [9], [10]: young collections."""

from cellkeep.cells import slots_of
from cellkeep.errors import NoName
from cellkeep.words import NOTHING, number_word, place_word
from cellkeep.young import collect_young
from tests.helper import CollectTest, World, places

# In a World old is 0 to 59, the one half 60 to 89, the other one 90 to 119.
ONE, TWO, THREE = number_word(1), number_word(2), number_word(3)


class YoungTest(CollectTest):

    def collect(self, world):
        """Collects, and looks at what holds behind each collection."""
        memory, old, young, spare = world.memory, world.areas.old, world.areas.young, world.areas.spare
        self.assert_fits(world)
        told = collect_young(world.areas, world.roots)
        self.assertIsInstance(told, tuple)
        for count in told:
            self.assertEqual(count.__class__, int)
        self.assertEqual(told[0], len(world.areas.young.cells(memory)))
        self.assertIs(world.areas.memory, memory)
        self.assertIs(world.areas.old, old)
        self.assertIs(world.areas.young, spare)
        self.assertIs(world.areas.spare, young)
        self.assert_fits(world)
        return told

    def young_cells(self, world):
        return world.cells(world.areas.young)

    def old_cells(self, world):
        return world.cells(world.areas.old)


class KeptTest(YoungTest):

    def test_parameters(self):
        self.assert_parameters(collect_young, ["areas", "roots"])

    def test_nothing_there(self):
        world = World()
        self.assertEqual(self.collect(world), (0, 0))
        self.assertEqual(world.tops(), [(0, 60, 0), (90, 120, 90), (60, 90, 60)])
        self.assertEqual(world.tables(), ([NOTHING] * 3, [], [], [], []))

    def test_age_nought_goes_to_the_other_half_with_age_one(self):
        world = World()
        at = world.young(ONE, NOTHING, TWO)
        world.hold(NOTHING, place_word(at))
        self.assertEqual(self.collect(world), (1, 0))
        self.assertEqual(self.young_cells(world), {90: (1, [ONE, NOTHING, TWO])})
        self.assertEqual(world.roots.hands.row(), [NOTHING, place_word(90), NOTHING])
        self.assertEqual(world.tops(), [(0, 60, 0), (90, 120, 94), (60, 90, 60)])

    def test_age_one_goes_to_old_with_age_two(self):
        world = World()
        world.old(THREE)
        at = world.young(ONE, NOTHING, TWO, age=1)
        world.hold(place_word(at))
        self.assertEqual(self.collect(world), (0, 1))
        self.assertEqual(self.old_cells(world), {0: (2, [THREE]), 2: (2, [ONE, NOTHING, TWO])})
        self.assertEqual(world.roots.hands.row(), [place_word(2), NOTHING, NOTHING])
        self.assertEqual(world.tops(), [(0, 60, 6), (90, 120, 90), (60, 90, 60)])

    def test_each_size(self):
        for slots in range(9):
            for age in range(2):
                with self.subTest(slots=slots, age=age):
                    world = World()
                    words = [number_word(slot) for slot in range(slots)]
                    world.hold(place_word(world.young(*words, age=age)))
                    self.assertEqual(self.collect(world), (1 - age, age))
                    cells = world.cells(world.areas.old if age else world.areas.young)
                    self.assertEqual(list(cells.values()), [(age + 1, words)])

    def test_who_is_not_met_is_gone(self):
        world = World()
        world.young(ONE)
        at = world.young(TWO)
        world.young(THREE, age=1)
        world.hold(place_word(at))
        self.assertEqual(self.collect(world), (1, 0))
        self.assertEqual((self.old_cells(world), self.young_cells(world)), ({}, {90: (1, [TWO])}))

    def test_all_are_gone(self):
        world = World()
        world.filled(world.young(NOTHING), [place_word(60)])
        world.young(place_word(60), age=1)
        world.hold(number_word(60), number_word(62))
        self.assertEqual(self.collect(world), (0, 0))
        self.assertEqual(world.roots.hands.row(), [number_word(60), number_word(62), NOTHING])
        self.assertEqual((self.old_cells(world), self.young_cells(world)), ({}, {}))

    def test_children_are_kept(self):
        world = World()
        leaf = world.young(ONE)
        middle = world.young(place_word(leaf), TWO)
        world.hold(place_word(world.young(NOTHING, place_word(middle))))
        self.assertEqual(self.collect(world), (3, 0))
        self.assertEqual(self.young_cells(world), {
            90: (1, [NOTHING, place_word(93)]), 93: (1, [place_word(96), TWO]), 96: (1, [ONE]),
        })

    def test_a_cell_that_holds_itself(self):
        for age in range(2):
            world = World()
            at = world.young(NOTHING, NOTHING, age=age)
            world.filled(at, places(at, at))
            world.hold(place_word(at))
            self.assertEqual(self.collect(world), (1 - age, age))
            goal = 0 if age else 90
            self.assertEqual(world.cell(goal), (age + 1, places(goal, goal)))
            self.assertEqual(world.roots.hands.row()[0], place_word(goal))

    def test_cells_that_hold_one_another(self):
        world = World()
        one = world.young(NOTHING)
        two = world.young(place_word(one), age=1)
        world.put(one, 0, place_word(two))
        world.hold(place_word(two))
        self.assertEqual(self.collect(world), (1, 1))
        self.assertEqual(self.old_cells(world), {0: (2, [place_word(90)])})
        self.assertEqual(self.young_cells(world), {90: (1, [place_word(0)])})
        self.assertEqual(world.roots.book.places(), [1])

    def test_held_several_times_and_copied_once(self):
        world = World()
        leaf = world.young(ONE)
        other = world.young(*places(leaf, leaf))
        world.old(*places(leaf, leaf, other))
        world.hold(*places(leaf, other, leaf))
        self.assertEqual(self.collect(world), (2, 0))
        self.assertEqual(self.young_cells(world), {90: (1, [ONE]), 92: (1, places(90, 90))})
        self.assertEqual(self.old_cells(world), {0: (2, places(90, 90, 92))})
        self.assertEqual(world.roots.hands.row(), places(90, 92, 90))
        self.assertEqual(world.roots.book.places(), [1, 2, 3])

    def test_both_spaces_full_to_the_end(self):
        world = World(old_words=4, young_words=4)
        at = world.young(ONE, TWO, THREE)
        world.hold(place_word(at))
        self.assertEqual(self.collect(world), (1, 0))
        self.assertEqual(self.young_cells(world), {8: (1, [ONE, TWO, THREE])})
        self.assertEqual(self.collect(world), (0, 1))
        self.assertEqual(self.old_cells(world), {0: (2, [ONE, TWO, THREE])})
        self.assertEqual(world.roots.hands.row()[0], place_word(0))


class OrderTest(YoungTest):

    def marks(self, world, space):
        """The first word in each cell of a space, by places."""
        return [words[0] // 2 for age, words in world.cells(space).values()]

    def test_by_hands(self):
        world = World(hands=6)
        one, two, three = world.young(ONE), world.young(TWO), world.young(THREE)
        world.hold(place_word(three), NOTHING, place_word(one), place_word(three), ONE, place_word(two))
        self.assertEqual(self.collect(world), (3, 0))
        self.assertEqual(self.marks(world, world.areas.young), [3, 1, 2])
        self.assertEqual(world.roots.hands.row(), [
            place_word(90), NOTHING, place_word(92), place_word(90), ONE, place_word(94),
        ])

    def test_hands_then_the_book_rising_then_children(self):
        world = World()
        marked = [world.young(number_word(mark), NOTHING) for mark in range(6)]
        world.put(marked[4], 1, place_word(marked[1]))
        world.old(NOTHING, NOTHING)
        world.put(0, 1, place_word(marked[2]))
        world.put(0, 0, place_word(marked[3]))
        world.hold(place_word(marked[4]))
        self.assertEqual(self.collect(world), (4, 0))
        self.assertEqual(self.marks(world, world.areas.young), [4, 3, 2, 1])

    def test_all_of_a_round_ahead_of_the_next(self):
        world = World(young_words=60)
        marked = [world.young(number_word(mark), NOTHING, NOTHING) for mark in range(7)]
        for mark, one, two in [(0, 5, 2), (5, 3, 6), (2, 1, 5), (6, 4, 0)]:
            world.put(marked[mark], 1, place_word(marked[one]))
            world.put(marked[mark], 2, place_word(marked[two]))
        world.hold(place_word(marked[0]))
        self.assertEqual(self.collect(world), (7, 0))
        self.assertEqual(self.marks(world, world.areas.young), [0, 5, 2, 3, 6, 1, 4])

    def test_the_order_goes_through_both_ages(self):
        world = World(young_words=60)
        marked = [world.young(number_word(mark), NOTHING, NOTHING, age=mark % 2) for mark in range(8)]
        for mark, one, two in [(3, 6, 7), (6, 5, 4), (7, 0, 1), (4, 2, 3)]:
            world.put(marked[mark], 1, place_word(marked[one]))
            world.put(marked[mark], 2, place_word(marked[two]))
        world.old(number_word(9))
        world.hold(place_word(marked[3]))
        self.assertEqual(self.collect(world), (4, 4))
        self.assertEqual(self.marks(world, world.areas.young), [6, 4, 0, 2])
        self.assertEqual(self.marks(world, world.areas.old), [9, 3, 7, 5, 1])

    def test_children_of_old_cells_are_met_by_the_book_alone(self):
        world = World()
        one, two = world.young(ONE), world.young(TWO)
        world.old(THREE, place_word(two))
        world.hold(place_word(0), place_word(one))
        self.assertEqual(self.collect(world), (2, 0))
        self.assertEqual(self.marks(world, world.areas.young), [1, 2])


class OldCellsTest(YoungTest):

    def test_what_they_hold_is_kept_though_nobody_comes_to_them(self):
        world = World()
        leaf = world.young(ONE)
        at = world.old(NOTHING, place_word(world.young(place_word(leaf))))
        self.assertEqual(self.collect(world), (2, 0))
        self.assertEqual(self.old_cells(world), {at: (2, [NOTHING, place_word(90)])})
        self.assertEqual(self.young_cells(world), {90: (1, [place_word(92)]), 92: (1, [ONE])})
        self.assertEqual(world.roots.book.places(), [2])

    def test_they_stay_as_they_are(self):
        world = World()
        first = world.old(ONE, NOTHING, number_word(60))
        second = world.old(place_word(first), place_word(4))
        world.hold(place_word(second), place_word(first))
        ahead = self.old_cells(world)
        self.assertEqual(self.collect(world), (0, 0))
        self.assertEqual(self.old_cells(world), ahead)
        self.assertEqual(world.roots.hands.row(), [place_word(second), place_word(first), NOTHING])
        self.assertEqual(world.tops()[0], (0, 60, 7))

    def test_old_cells_that_a_young_one_holds(self):
        world = World()
        old = world.old(ONE)
        world.hold(place_word(world.young(place_word(old), place_word(old))))
        self.assertEqual(self.collect(world), (1, 0))
        self.assertEqual(self.young_cells(world), {90: (1, places(old, old))})

    def test_the_book_loses_slots_whose_cells_became_old(self):
        world = World()
        grown, fresh = world.young(ONE, age=1), world.young(TWO)
        world.old(place_word(grown), place_word(fresh), THREE)
        self.assertEqual(world.roots.book.places(), [1, 2])
        self.assertEqual(self.collect(world), (1, 1))
        self.assertEqual(self.old_cells(world), {0: (2, [place_word(4), place_word(90), THREE]), 4: (2, [ONE])})
        self.assertEqual(world.roots.book.places(), [2])

    def test_the_book_gains_slots_of_cells_that_became_old(self):
        world = World()
        fresh, grown = world.young(ONE), world.young(TWO, age=1)
        world.hold(place_word(world.young(*places(fresh, grown, fresh), NOTHING, place_word(fresh), age=1)))
        self.assertEqual(self.collect(world), (1, 2))
        self.assertEqual(world.cell(0), (2, places(90, 6, 90) + [NOTHING, place_word(90)]))
        self.assertEqual(world.roots.book.places(), [1, 3, 5])

    def test_numbers_that_look_like_places_are_let_be(self):
        world = World()
        at = world.young(ONE)
        numbers = [number_word(at), number_word(90), number_word(2 * at + 1)]
        world.old(*numbers)
        world.hold(place_word(at), number_word(at))
        self.collect(world)
        self.assertEqual(world.cell(0), (2, numbers))
        self.assertEqual(world.roots.hands.row(), [place_word(90), number_word(at), NOTHING])


class NamesAndTicketsTest(YoungTest):

    def test_they_go_along(self):
        world = World()
        fresh, grown = world.young(ONE), world.young(TWO, age=1)
        world.hold(place_word(fresh), place_word(grown))
        for at in [grown, fresh, grown]:
            world.roots.weaks.name(at)
            world.roots.lasts.give(at, at)
        self.collect(world)
        self.assertEqual(world.roots.weaks.names(), [(0, 0), (1, 90), (2, 0)])
        self.assertEqual(world.roots.lasts.pending(), [(0, 0, grown), (1, 90, fresh), (2, 0, grown)])
        self.assertEqual(world.roots.lasts.said(), [])

    def test_of_those_not_met(self):
        world = World()
        kept, lost, grown = world.young(ONE), world.young(TWO), world.young(THREE, age=1)
        world.hold(place_word(kept))
        for at, number in [(lost, 5), (kept, 6), (grown, 7), (lost, -8)]:
            world.roots.weaks.name(at)
            world.roots.lasts.give(at, number)
        self.collect(world)
        self.assertEqual(world.roots.weaks.names(), [(1, 90)])
        self.assertEqual([world.roots.weaks.at(name) for name in range(4)], [None, 90, None, None])
        self.assertEqual(world.roots.lasts.pending(), [(1, 90, 6)])
        self.assertEqual(world.roots.lasts.said(), [5, 7, -8])

    def test_names_and_tickets_keep_nothing(self):
        world = World()
        at = world.young(ONE)
        world.roots.weaks.name(at)
        world.roots.lasts.give(at, 4)
        self.assertEqual(self.collect(world), (0, 0))
        self.assertEqual((world.roots.weaks.at(0), world.roots.lasts.said()), (None, [4]))

    def test_of_old_cells_stay_though_nobody_comes_to_them(self):
        world = World()
        one, two = world.old(ONE), world.old(TWO)
        world.hold(place_word(two))
        for at in [one, two]:
            world.roots.weaks.name(at)
            world.roots.lasts.give(at, at)
        self.collect(world)
        self.assertEqual(world.roots.weaks.names(), [(0, one), (1, two)])
        self.assertEqual(world.roots.lasts.pending(), [(0, one, one), (1, two, two)])

    def test_said_behind_what_was_said_and_once(self):
        world = World()
        for number in [7, 8, 9]:
            world.roots.lasts.give(world.young(), number)
        world.roots.lasts.say(1)
        self.collect(world)
        self.assertEqual(world.roots.lasts.said(), [8, 7, 9])
        self.collect(world)
        self.assertEqual(world.roots.lasts.said(), [8, 7, 9])

    def test_gone_ones_stay_so(self):
        world = World()
        at = world.young(ONE)
        world.hold(place_word(at))
        world.roots.weaks.name(at)
        world.roots.weaks.gone(0)
        self.collect(world)
        self.assertIsNone(world.roots.weaks.at(0))
        self.assert_refused(NoName, world.roots.weaks.move, 0, 90)


class AgainTest(YoungTest):

    def test_three_times(self):
        world = World()
        leaf = world.young(ONE)
        world.hold(place_word(world.young(place_word(leaf), TWO)))
        name = world.roots.weaks.name(leaf)
        self.assertEqual(self.collect(world), (2, 0))
        self.assertEqual(world.tops(), [(0, 60, 0), (90, 120, 95), (60, 90, 60)])
        self.assertEqual(world.roots.weaks.at(name), 93)
        self.assertEqual(self.collect(world), (0, 2))
        self.assertEqual(world.tops(), [(0, 60, 5), (60, 90, 60), (90, 120, 90)])
        self.assertEqual(self.old_cells(world), {0: (2, [place_word(3), TWO]), 3: (2, [ONE])})
        self.assertEqual(world.roots.weaks.at(name), 3)
        self.assertEqual(self.collect(world), (0, 0))
        self.assertEqual(world.tops(), [(0, 60, 5), (90, 120, 90), (60, 90, 60)])
        self.assertEqual(world.roots.hands.row()[0], place_word(0))

    def test_with_new_cells_between(self):
        world = World()
        world.hold(place_word(world.young(ONE, NOTHING)))
        self.assertEqual(self.collect(world), (1, 0))
        fresh = world.young(TWO)
        self.assertEqual(fresh, 93)
        world.put(90, 1, place_word(fresh))
        self.assertEqual(self.collect(world), (1, 1))
        self.assertEqual(self.old_cells(world), {0: (2, [ONE, place_word(60)])})
        self.assertEqual(self.young_cells(world), {60: (1, [TWO])})
        self.assertEqual(world.roots.book.places(), [2])
        world.put(0, 1, NOTHING)
        self.assertEqual(self.collect(world), (0, 0))
        self.assertEqual(self.old_cells(world), {0: (2, [ONE, NOTHING])})
        self.assertEqual(slots_of(world.memory, 0), 2)
