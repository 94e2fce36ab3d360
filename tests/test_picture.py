"""[11]: pictures of what hands reach."""

from cellkeep.picture import picture
from cellkeep.sliding import collect_all
from cellkeep.words import NOTHING, number_word, place_word
from cellkeep.young import collect_young
from tests.helper import KeepTest, World, places


class PictureTest(KeepTest):

    def assert_picture(self, world, held, slots):
        ahead = world.state()
        told = picture(world.areas, world.roots)
        self.assertIsInstance(told, tuple)
        self.assertEqual(told, (held, slots))
        for part in [*told, *told[1]]:
            self.assertIsInstance(part, list)
        self.assertEqual(world.state(), ahead)

    def test_parameters(self):
        self.assert_parameters(picture, ["areas", "roots"])

    def test_nothing_held(self):
        for many in range(1, 7):
            self.assert_picture(World(hands=many), [None] * many, [])

    def test_numbers(self):
        world = World(hands=4)
        world.hold(number_word(0), number_word(-10 ** 12), NOTHING, number_word(10 ** 12))
        self.assert_picture(world, [0, -10 ** 12, None, 10 ** 12], [])

    def test_cells_numbered_as_they_are_met(self):
        world = World(hands=5)
        one, two = world.old(number_word(1)), world.young(number_word(2), NOTHING)
        world.hold(place_word(two), number_word(9), place_word(one), place_word(two))
        self.assert_picture(world, [("cell", 0), 9, ("cell", 1), ("cell", 0), None], [[2, None], [1]])

    def test_slots_told_likewise(self):
        world = World(hands=1)
        leaf = world.young()
        other = world.old(place_word(leaf), number_word(-3))
        at = world.young(NOTHING, place_word(other), number_word(0), place_word(leaf), place_word(other))
        world.put(other, 1, place_word(at))
        world.hold(place_word(at))
        self.assert_picture(world, [("cell", 0)], [
            [None, ("cell", 1), 0, ("cell", 2), ("cell", 1)], [("cell", 2), ("cell", 0)], [],
        ])

    def test_met_round_by_round(self):
        world = World(hands=2)
        deep = world.old()
        one, two = world.old(place_word(deep)), world.old(number_word(2))
        world.hold(*places(one, two))
        self.assert_picture(world, [("cell", 0), ("cell", 1)], [[("cell", 2)], [2], []])

    def test_cells_that_hold_themselves(self):
        world = World(hands=1)
        at = world.young(NOTHING, NOTHING)
        world.put(at, 1, place_word(at))
        world.hold(place_word(at))
        self.assert_picture(world, [("cell", 0)], [[None, ("cell", 0)]])

    def test_who_is_not_met_is_not_shown(self):
        world = World(hands=1)
        young = world.young(number_word(5))
        world.old(place_word(young))
        world.roots.weaks.name(young)
        world.roots.lasts.give(young, 6)
        self.assert_picture(world, [None], [])

    def test_the_same_ahead_of_collections_and_behind_them(self):
        world = World(hands=3)
        world.old(number_word(8))
        leaf = world.young(number_word(7), age=1)
        old = world.old(place_word(leaf), NOTHING)
        world.put(old, 1, place_word(world.young(place_word(old))))
        world.hold(place_word(leaf), number_word(1), place_word(old))
        ahead = picture(world.areas, world.roots)
        self.assertEqual(ahead, (
            [("cell", 0), 1, ("cell", 1)], [[7], [("cell", 0), ("cell", 2)], [("cell", 1)]],
        ))
        collect_young(world.areas, world.roots)
        self.assertEqual(picture(world.areas, world.roots), ahead)
        collect_all(world.areas, world.roots)
        self.assertEqual(picture(world.areas, world.roots), ahead)

    def test_each_list_is_new_and_stays(self):
        world = World(hands=1)
        at = world.young(number_word(1))
        world.hold(place_word(at))
        told = picture(world.areas, world.roots)
        told[0].append(5)
        told[1][0].append(6)
        told[1].append([])
        self.assert_picture(world, [("cell", 0)], [[1]])
        told = picture(world.areas, world.roots)
        world.put(at, 0, NOTHING)
        world.hold()
        self.assertEqual(told, ([("cell", 0)], [[1]]))
