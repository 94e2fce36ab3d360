"""[8] to [11]: collections of many worlds, held against a plain telling of what is behind them."""

import random

from cellkeep.picture import picture
from cellkeep.sliding import collect_all
from cellkeep.words import NOTHING, kind, number_word, place_word, worth
from cellkeep.young import collect_young
from tests.helper import CollectTest, World


def met_from(cells, starts):
    """The places of a dict's cells that are met, by rounds; places beyond the dict are passed by."""
    met = []
    coming = starts
    while coming:
        fresh = []
        for at in coming:
            if at in cells and at not in met + fresh:
                fresh.append(at)
        met += fresh
        coming = [worth(word) for at in fresh for word in cells[at][1] if kind(word) == "place"]
    return met


def behind(word, goals):
    if kind(word) == "place" and worth(word) in goals:
        return place_word(goals[worth(word)])
    return word


def moved_cells(cells, goals, ages):
    return {goals[at]: (ages[at], [behind(word, goals) for word in words]) for at, (age, words) in cells.items()}


def wanted_tables(world, goals, lost, book):
    """Hands, book, names, tickets and what was said, where some cells moved and others are lost."""
    hands, former, names, pending, said = world.tables()
    return (
        [behind(word, goals) for word in hands],
        book,
        [(name, goals[at]) for name, at in names if at not in lost],
        [(ticket, goals[at], number) for ticket, at, number in pending if at not in lost],
        said + [number for ticket, at, number in pending if at in lost],
    )


def book_of(old, young):
    return [at + 1 + slot for at in sorted(old) for slot, word in enumerate(old[at][1])
            if kind(word) == "place" and worth(word) in young]


def wanted_young(world):
    """What a young collection is to leave: old cells, young cells, tables and the pair."""
    areas = world.areas
    old, young = world.cells(areas.old), world.cells(areas.young)
    starts = world.roots.starts()
    starts += [worth(world.memory.read(place)) for place in world.wanted_book()]
    met = met_from(young, starts)
    goals = {at: at for at in old}
    ages = {at: 2 for at in old}
    tops = [areas.spare.begin, areas.old.top]
    for at in met:
        age, words = young[at]
        goals[at], ages[at] = tops[age], age + 1
        tops[age] += 1 + len(words)
    grown = [at for at in met if young[at][0] == 1]
    fresh = [at for at in met if young[at][0] == 0]
    old_then = moved_cells({**old, **{at: young[at] for at in grown}}, goals, ages)
    young_then = moved_cells({at: young[at] for at in fresh}, goals, ages)
    lost = [at for at in young if at not in met]
    tables = wanted_tables(world, goals, lost, book_of(old_then, young_then))
    return old_then, young_then, tables, (len(fresh), len(grown))


def wanted_all(world):
    """What a whole collection is to leave: old cells, tables and the count of words."""
    cells = {**world.cells(world.areas.old), **world.cells(world.areas.young)}
    met = sorted(met_from(cells, world.roots.starts()))
    goals, top = {}, 0
    for at in met:
        goals[at] = top
        top += 1 + len(cells[at][1])
    then = moved_cells({at: cells[at] for at in met}, goals, {at: 2 for at in met})
    lost = [at for at in cells if at not in met]
    return then, wanted_tables(world, goals, lost, []), top


class Chance:
    """Deeds upon a world that keep it as [8] tells, chosen by a seed."""

    def __init__(self, seed):
        self.rng = random.Random(seed)
        many = self.rng.randint(1, 6)
        self.world = World(many, self.rng.randint(4, 90), self.rng.randint(2, 50))

    def cells(self):
        world = self.world
        return world.areas.old.cells(world.memory) + world.areas.young.cells(world.memory)

    def word(self):
        cells = self.cells()
        if cells and self.rng.random() < 0.7:
            return place_word(self.rng.choice(cells))
        return self.rng.choice([NOTHING, number_word(self.rng.randint(-9, 99))])

    def step(self):
        world, rng = self.world, self.rng
        deed = rng.choice(["young", "young", "old", "put", "put", "put", "hold", "name", "give"])
        slots = rng.randint(0, 8)
        if deed == "young" and world.areas.young.room() > slots:
            world.young(*[self.word() for slot in range(slots)])
        elif deed == "old" and world.areas.old.room() > slots and rng.random() < 0.4:
            world.old(*[self.word() for slot in range(slots)])
        elif deed == "hold":
            world.roots.hands.put(rng.randrange(len(world.roots.hands.row())), self.word())
        elif self.cells():
            self.step_at(deed, rng.choice(self.cells()))

    def step_at(self, deed, at):
        world, rng = self.world, self.rng
        slots = len(world.cell(at)[1])
        if deed == "name":
            world.roots.weaks.name(at)
        elif deed == "give":
            world.roots.lasts.give(at, rng.randint(-99, 99))
        elif deed == "put" and slots:
            world.put(at, rng.randrange(slots), self.word())

    def may_collect_young(self):
        world = self.world
        grown = [words for age, words in world.cells(world.areas.young).values() if age == 1]
        return sum(len(words) + 1 for words in grown) <= world.areas.old.room()

    def may_collect_all(self):
        return wanted_all(self.world)[2] <= self.world.areas.old.end


class CollectionsTest(CollectTest):

    def collect_young(self, world):
        old, young, tables, pair = wanted_young(world)
        half = world.areas.spare
        self.assertEqual(collect_young(world.areas, world.roots), pair)
        self.assertIs(world.areas.young, half)
        self.assertEqual(world.cells(world.areas.old), old)
        self.assertEqual(world.cells(world.areas.young), young)
        self.assertEqual(world.tables(), tables)

    def collect_all(self, world):
        old, tables, top = wanted_all(world)
        self.assertEqual(collect_all(world.areas, world.roots), top)
        self.assertEqual(world.cells(world.areas.old), old)
        self.assertEqual(world.areas.young.used(), 0)
        self.assertEqual(world.tables(), tables)

    def test_many_worlds(self):
        done = {"young": 0, "all": 0, "grown": 0}
        for seed in range(150):
            with self.subTest(seed):
                chance = Chance(seed)
                world = chance.world
                for many in range(12):
                    for deed in range(chance.rng.randint(0, 15)):
                        chance.step()
                    self.assert_fits(world)
                    ahead = picture(world.areas, world.roots)
                    if chance.rng.random() < 0.75 and chance.may_collect_young():
                        top = world.areas.old.top
                        self.collect_young(world)
                        done["young"] += 1
                        done["grown"] += world.areas.old.top > top
                    elif chance.may_collect_all():
                        self.collect_all(world)
                        done["all"] += 1
                    self.assert_fits(world)
                    self.assertEqual(picture(world.areas, world.roots), ahead)
        # Else the worlds would have shown too little.
        self.assertGreater(min(done.values()), 100, done)
