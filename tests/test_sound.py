"""[8], [12]: faults of areas and roots."""

from cellkeep.cells import aged, send
from cellkeep.heap import Heap
from cellkeep.sliding import collect_all
from cellkeep.sound import faults
from cellkeep.words import NOTHING, number_word, place_word
from cellkeep.young import collect_young
from tests.helper import CollectTest, World, places

# In a World old is 0 to 59, the one half 60 to 89, the other one 90 to 119.
ONE = number_word(1)


def sound_world():
    """Old cells at 0 (of 3 slots) and 4 (of 1), young ones at 60 (of 2, age 0) and 63 (of 1, age 1)."""
    world = World()
    world.old(ONE, NOTHING, place_word(0))
    world.old(place_word(0))
    world.young(place_word(4), ONE)
    world.young(place_word(60), age=1)
    world.put(0, 1, place_word(63))
    world.hold(place_word(0), ONE, place_word(60))
    world.roots.weaks.name(4)
    world.roots.weaks.name(63)
    world.roots.lasts.give(60, 5)
    world.roots.lasts.give(0, 6)
    return world


class FaultsTest(CollectTest):

    def assert_faults(self, world, *wanted):
        """Told so, told so once more, and nothing is changed."""
        ahead = world.state()
        told = faults(world.areas, world.roots)
        self.assertEqual(told.__class__, list)
        self.assertEqual(told, list(wanted))
        told.append("more")
        self.assertEqual(faults(world.areas, world.roots), list(wanted))
        self.assertEqual(world.state(), ahead)


class SoundTest(FaultsTest):

    def test_parameters(self):
        self.assert_parameters(faults, ["areas", "roots"])

    def test_empty(self):
        self.assert_faults(World())
        self.assert_faults(World(1, 4, 2))
        self.assert_faults(World(6, 2000, 500))

    def test_sound(self):
        self.assert_faults(sound_world())

    def test_behind_collections(self):
        world = sound_world()
        collect_young(world.areas, world.roots)
        self.assert_faults(world)
        collect_young(world.areas, world.roots)
        self.assert_faults(world)
        collect_all(world.areas, world.roots)
        self.assert_faults(world)

    def test_of_a_heap(self):
        heap = Heap(2, 30, 6)
        heap.make(0, 6)
        heap.make(1, 2)
        heap.put(0, 0, heap.held(1))
        heap.put(1, 0, heap.held(0))
        self.assert_faults(World.of(heap))

    def test_full(self):
        world = World(1, 20, 10)
        for many in range(2):
            world.old(*[ONE] * 4)
            world.young(*[ONE] * 4)
        self.assert_faults(world)

    def test_words_beyond_the_tops(self):
        world = sound_world()
        for at in list(range(6, 60)) + list(range(65, 120)):
            world.memory.write(at, place_word(9999))
        self.assert_faults(world)

    def test_names_that_are_gone_and_tickets_that_were_said(self):
        world = sound_world()
        world.roots.weaks.name(7)
        world.roots.weaks.gone(2)
        world.roots.lasts.give(61, 9)
        world.roots.lasts.say(2)
        self.assert_faults(world)


class WalkTest(FaultsTest):

    def test_a_top_too_near_or_too_far(self):
        for top in [1, 3, 5, 7, 60]:
            world = sound_world()
            world.areas.old.cut(top)
            self.assert_faults(world, "walk")
        for top in [61, 62, 64, 66, 90]:
            world = sound_world()
            world.areas.young.cut(top)
            self.assert_faults(world, "walk")

    def test_a_cell_beyond_the_end(self):
        world = World(1, 4, 2)
        world.old(ONE, ONE, ONE)
        self.assert_faults(world)
        for slots in [4, 7, 8]:
            world.memory.write(0, number_word(4 * slots + 2))
            self.assert_faults(world, "walk")
        world = World(1, 4, 2)
        world.young(ONE)
        self.assert_faults(world)
        for slots in [2, 3, 4, 8]:
            world.memory.write(4, number_word(4 * slots))
            self.assert_faults(world, "walk")

    def test_at_the_end_of_the_memory(self):
        world = World(1, 4, 2)
        world.areas.flip()
        world.young(ONE)
        world.hold(place_word(6))
        self.assert_faults(world)
        world.memory.write(6, number_word(4 * 8))
        self.assert_faults(world, "walk")

    def test_no_head(self):
        for at in [0, 4, 60, 63]:
            for word in [NOTHING, number_word(3), number_word(35), number_word(36), number_word(-4), place_word(0)]:
                world = sound_world()
                world.memory.write(at, word)
                self.assert_faults(world, "walk")

    def test_sent_on(self):
        for at in [0, 4, 60, 63]:
            world = sound_world()
            send(world.memory, at, 90)
            self.assert_faults(world, "walk")

    def test_alone(self):
        world = sound_world()
        world.memory.write(63, NOTHING)
        world.hold(place_word(7), place_word(9999))
        world.roots.book.write(3)
        aged(world.memory, 0, 0)
        self.assert_faults(world, "walk")
        world = World(1, 4, 20)
        world.young(*[ONE] * 8)
        world.areas.young.cut(14)
        self.assert_faults(world, "walk")

    def test_spare_is_not_walked(self):
        world = sound_world()
        world.memory.write(90, NOTHING)
        self.assert_faults(world)


class StrayTest(FaultsTest):

    # Slots of cells, places beyond a top, of the spare half, and beyond the memory.
    STRAYS = [1, 3, 5, 6, 59, 61, 64, 65, 89, 90, 119, 120, 9999]

    def test_in_a_hand(self):
        for hand in range(3):
            for at in self.STRAYS:
                world = sound_world()
                world.roots.hands.put(hand, place_word(at))
                self.assert_faults(world, "stray")

    def test_in_a_slot(self):
        for cell, slot in [(0, 0), (0, 2), (4, 0), (60, 0), (60, 1), (63, 0)]:
            for at in self.STRAYS:
                world = sound_world()
                world.memory.write(cell + 1 + slot, place_word(at))
                self.assert_faults(world, "stray")

    def test_of_a_name(self):
        for at in self.STRAYS:
            world = sound_world()
            world.roots.weaks.move(1, at)
            self.assert_faults(world, "stray")
            world.roots.weaks.move(1, 60)
            self.assert_faults(world)
            world.roots.weaks.name(at)
            self.assert_faults(world, "stray")
            world.roots.weaks.gone(2)
            self.assert_faults(world)

    def test_of_a_ticket(self):
        for at in self.STRAYS:
            world = sound_world()
            world.roots.lasts.move(0, at)
            self.assert_faults(world, "stray")
            world.roots.lasts.move(0, 63)
            self.assert_faults(world)
            world.roots.lasts.give(at, 3)
            self.assert_faults(world, "stray")
            world.roots.lasts.say(2)
            self.assert_faults(world)

    def test_a_cell_of_the_spare_half(self):
        world = sound_world()
        world.areas.flip()
        at = world.young(ONE)
        world.areas.flip()
        self.assert_faults(world)
        world.hold(place_word(at))
        self.assert_faults(world, "stray")

    def test_numbers_are_no_places(self):
        world = sound_world()
        world.hold(number_word(1), number_word(9999))
        world.put(4, 0, number_word(3))
        self.assert_faults(world)

    def test_a_cell_that_nobody_reaches_counts(self):
        world = World()
        at = world.young(ONE)
        self.assert_faults(world)
        world.memory.write(at + 1, place_word(7))
        self.assert_faults(world, "stray")


class BookTest(FaultsTest):

    def test_a_place_too_many(self):
        for place in [0, 1, 3, 4, 5, 6, 59, 60, 61, 62, 64, 90, 120, 9999]:
            world = sound_world()
            world.roots.book.write(place)
            self.assert_faults(world, "book")

    def test_a_place_too_few(self):
        world = sound_world()
        world.roots.book.rub(2)
        self.assert_faults(world, "book")
        world.roots.book.write(2)
        world.memory.write(5, place_word(60))
        self.assert_faults(world, "book")
        world.roots.book.write(5)
        self.assert_faults(world)

    def test_another_place(self):
        world = sound_world()
        world.roots.book.rub(2)
        world.roots.book.write(3)
        self.assert_faults(world, "book")

    def test_the_slot_was_written_over(self):
        for word in [NOTHING, ONE, place_word(0), place_word(4), number_word(31)]:
            world = sound_world()
            world.memory.write(2, word)
            self.assert_faults(world, "book")

    def test_a_place_of_young_that_is_no_cell(self):
        world = sound_world()
        world.memory.write(2, place_word(64))
        # No young cell stands in the slot any more, so the book has a place too many.
        self.assert_faults(world, "stray", "book")
        world.roots.book.rub(2)
        self.assert_faults(world, "stray")


class RoomTest(FaultsTest):

    def test_one_word_too_many(self):
        world = World(1, 20, 20)
        world.old(*[ONE] * 8)
        world.young(*[ONE] * 8)
        world.young(ONE)
        self.assert_faults(world)
        world.old()
        self.assert_faults(world, "room")

    def test_young_alone(self):
        world = World(1, 4, 20)
        world.young(ONE, ONE, ONE)
        self.assert_faults(world)
        world.young()
        self.assert_faults(world, "room")

    def test_behind_a_flip(self):
        world = World(1, 4, 20)
        world.areas.flip()
        world.young(ONE, ONE, ONE, ONE)
        self.assert_faults(world, "room")


class AgeTest(FaultsTest):

    def test_old(self):
        for at in [0, 4]:
            for age in [0, 1]:
                world = sound_world()
                aged(world.memory, at, age)
                self.assert_faults(world, "age")

    def test_young(self):
        for at in [60, 63]:
            for age, wanted in [(0, []), (1, []), (2, ["age"])]:
                world = sound_world()
                aged(world.memory, at, age)
                self.assert_faults(world, *wanted)


class SeveralTest(FaultsTest):

    def test_two_and_more(self):
        faulty = {
            "stray": lambda world: world.hold(*places(7)),
            "book": lambda world: world.roots.book.write(3),
            "room": lambda world: world.young(),
            "age": lambda world: aged(world.memory, 4, 1),
        }
        for many in range(16):
            world = sound_world()
            wanted = [word for bit, word in enumerate(faulty) if many >> bit & 1]
            if "room" in wanted:
                # Old gets full: 6 words, 5 in young, 49 more.
                for more in range(7):
                    world.old(*[ONE] * 6)
                self.assert_faults(world)
            for word in wanted:
                faulty[word](world)
            self.assert_faults(world, *wanted)
