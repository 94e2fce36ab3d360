"""[17]: frames, and the deeds of statements."""

import random

from cellkeep.errors import NoRoom, NoSlot, NothingHeld
from cellkeep.frames import begun, deeds_of, loaded, stored
from cellkeep.keeper import Keeper
from cellkeep.notes import deed_of, line_of
from cellkeep.picture import picture
from cellkeep.playing import answer_of
from tests.helper import CollectTest, World

FREE_WORDS = ("make", "keep", "share", "drop", "take", "put", "read")
# Any texts can be names here.
MANY = [f"name {number}" for number in range(42)]
COUNTS = [1, 2, 6, 7, 8, 13, 14, 15, 21, 35, 36, 41, 42]


class FramesTest(CollectTest):

    def assert_deeds(self, deeds):
        self.assertEqual(deeds.__class__, list)
        for deed in deeds:
            self.assertEqual(deed.__class__, tuple)
            self.assertIn(deed[0], FREE_WORDS)
            self.assertEqual(deed_of(line_of(deed)), deed)

    def do(self, keeper, deeds):
        self.assert_deeds(deeds)
        told = [answer_of(keeper, deed) for deed in deeds]
        self.assertEqual(keeper.unsound(), [])
        return told

    def begin(self, names, old_words=400, young_words=60):
        keeper = Keeper(3, old_words, young_words)
        self.do(keeper, begun(names))
        return keeper

    def numbered(self, names):
        """A keeper in whose frames each name stands for a number, its place in the list."""
        keeper = self.begin(names)
        for number, name in enumerate(names):
            keeper.keep(1, number)
            self.do(keeper, stored(names, name))
        keeper.drop(1)
        keeper.drop(2)
        return keeper

    def frames(self, keeper):
        """What stands in the slots of each frame, told as in pictures."""
        hands, cells = picture(keeper.heap.areas, keeper.heap.roots)
        found, at = [], hands[0]
        while at is not None:
            found.append(cells[at[1]])
            at = cells[at[1]][7]
        return found

    def standing(self, keeper, names):
        """What each name stands for, told as in pictures."""
        slots = [slot for frame in self.frames(keeper) for slot in frame[:7]]
        self.assertEqual(slots[len(names):], [None] * (len(slots) - len(names)))
        return slots[:len(names)]


class BegunTest(FramesTest):

    def test_parameters(self):
        self.assert_parameters(begun, ["names"])
        self.assert_parameters(loaded, ["names", "name", "hand"])
        self.assert_parameters(stored, ["names", "name"])
        self.assert_parameters(deeds_of, ["names", "statement"])

    def test_no_names(self):
        self.assertEqual(begun([]), [])

    def test_frames(self):
        for many in COUNTS:
            names = MANY[:many]
            keeper = self.begin(names)
            self.assertEqual(names, MANY[:many])
            wanted = (many + 6) // 7
            self.assertEqual([keeper.read(hand) for hand in range(3)], ["cell", None, None])
            # The frames, each with the next one in its last slot, and no other cell.
            last = [None] * 7
            self.assertEqual(picture(keeper.heap.areas, keeper.heap.roots), ([("cell", 0), None, None], [
                last + [("cell", number + 1)] for number in range(wanted - 1)
            ] + [last + [None]]))
            keeper.tidy_all()
            self.assertEqual(keeper.used(), 9 * wanted)

    def test_told_anew(self):
        told = begun(MANY)
        self.assertEqual(begun(MANY), told)
        told.clear()
        self.assertNotEqual(begun(MANY), [])

    def test_in_as_few_words_as_frames_have(self):
        for many in COUNTS:
            wanted = 9 * ((many + 6) // 7)
            for young in [2, 9, 10, 60]:
                self.begin(MANY[:many], wanted, young)
                keeper = Keeper(3, wanted - 1, young)
                with self.assertRaises(NoRoom):
                    self.do(keeper, begun(MANY[:many]))


class LoadedTest(FramesTest):

    def test_each_name(self):
        for many in [1, 7, 8, 42]:
            names = MANY[:many]
            for number, name in enumerate(names):
                for hand in [1, 2]:
                    keeper = self.numbered(names)
                    keeper.make(3 - hand, 2)
                    other = keeper.heap.held(3 - hand)
                    ahead = World.of(keeper.heap)
                    cells = (ahead.cells(keeper.heap.areas.old), ahead.cells(keeper.heap.areas.young))
                    self.do(keeper, loaded(names, name, hand))
                    self.assertEqual(keeper.read(hand), number)
                    self.assertEqual((keeper.read(0), keeper.heap.held(3 - hand)), ("cell", other))
                    self.assertEqual((ahead.cells(keeper.heap.areas.old), ahead.cells(keeper.heap.areas.young)), cells)
                    self.assertEqual(self.standing(keeper, names), list(range(many)))

    def test_a_cell_and_nothing(self):
        keeper = self.begin(MANY)
        keeper.make(1, 3)
        self.do(keeper, stored(MANY, MANY[20]))
        for hand in [1, 2]:
            keeper.keep(hand, 5)
            self.do(keeper, loaded(MANY, MANY[20], hand))
            self.assertEqual(keeper.read(hand), "cell")
            self.do(keeper, loaded(MANY, MANY[21], hand))
            self.assertIsNone(keeper.read(hand))

    def test_whatever_the_hand_held(self):
        keeper = self.numbered(MANY)
        for number in [0, 8, 41, 3, 40]:
            for hand in [1, 2]:
                self.do(keeper, loaded(MANY, MANY[number], hand))
                self.assertEqual(keeper.read(hand), number)

    def test_lists_stay(self):
        names = list(MANY)
        told = loaded(names, MANY[9], 1)
        stored(names, MANY[9])
        deeds_of(names, ("tell", MANY[9]))
        self.assertEqual(names, MANY)
        told.append(("drop", 0))
        self.assertEqual(loaded(names, MANY[9], 1), told[:-1])


class StoredTest(FramesTest):

    def test_each_name(self):
        for many in [1, 7, 8, 42]:
            names = MANY[:many]
            for number, name in enumerate(names):
                keeper = self.numbered(names)
                keeper.keep(1, -9)
                self.do(keeper, stored(names, name))
                wanted = list(range(many))
                wanted[number] = -9
                self.assertEqual(self.standing(keeper, names), wanted)
                self.assertEqual((keeper.read(0), keeper.read(1)), ("cell", -9))

    def test_a_cell_and_nothing(self):
        for number in [0, 6, 7, 20, 41]:
            keeper = self.numbered(MANY)
            keeper.make(1, 2)
            word = keeper.heap.held(1)
            self.do(keeper, stored(MANY, MANY[number]))
            self.assertEqual(keeper.heap.held(1), word)
            self.do(keeper, loaded(MANY, MANY[number], 2))
            self.assertEqual(keeper.heap.held(2), word)
            keeper.drop(1)
            self.do(keeper, stored(MANY, MANY[number]))
            self.assertIsNone(self.standing(keeper, MANY)[number])

    def test_whatever_hand_2_held(self):
        keeper = self.numbered(MANY)
        keeper.keep(1, -1)
        for hold in [lambda: keeper.drop(2), lambda: keeper.keep(2, 5), lambda: keeper.make(2, 0)]:
            for number in [0, 9, 41]:
                hold()
                self.do(keeper, stored(MANY, MANY[number]))
        wanted = [-1 if number in (0, 9, 41) else number for number in range(42)]
        self.assertEqual(self.standing(keeper, MANY), wanted)


class DeedsTest(FramesTest):

    def assert_begins(self, deeds):
        self.assert_deeds(deeds)
        self.assertEqual(deeds[:2], [("drop", 1), ("drop", 2)])

    def do_statement(self, keeper, names, *statement):
        deeds = deeds_of(names, statement)
        self.assert_begins(deeds)
        return self.do(keeper, deeds)

    def test_form(self):
        for names in [MANY, ["a", "b"], ["b", "a"], ["b"] + MANY[:41] + ["a"]]:
            a, b = names[0], names[-1]
            for statement in [
                ("make", a, 3), ("make", b, 9), ("make", a, -1), ("keep", a, 5), ("keep", b, 10 ** 59), ("copy", a, b),
                ("copy", a, a), ("drop", a), ("drop", b), ("get", a, b, 0), ("get", a, a, 99), ("set", a, 0, b),
                ("set", b, -1, b), ("tell", a), ("tell", b),
            ]:
                deeds = deeds_of(names, statement)
                self.assert_begins(deeds)
                reads = [deed for deed in deeds if deed[0] == "read"]
                if statement[0] == "tell":
                    self.assertEqual((deeds[-1], reads), (("read", 1), [("read", 1)]))
                self.assertEqual([deed for deed in deeds if deed[0] == "make"],
                                 [("make", 1, statement[2])] if statement[0] == "make" else [])

    def test_where_a_make_begins_no_hand_but_0_holds_anything(self):
        for name in [MANY[0], MANY[9], MANY[41]]:
            keeper = self.numbered(MANY)
            keeper.make(1, 8)
            keeper.make(2, 8)
            for deed in deeds_of(MANY, ("make", name, 2)):
                if deed[0] == "make":
                    self.assertEqual([keeper.read(hand) for hand in range(3)], ["cell", None, None])
                answer_of(keeper, deed)
            self.assertIsInstance(self.standing(keeper, MANY)[MANY.index(name)], tuple)

    def test_each_statement(self):
        for one, other, third in [(0, 1, 2), (0, 20, 41), (41, 20, 0), (20, 41, 0), (20, 0, 41), (7, 6, 8), (13, 14, 6)]:
            names = MANY
            keeper = self.numbered(names)
            a, b, c = names[one], names[other], names[third]
            self.do_statement(keeper, names, "make", a, 3)
            self.assertEqual(self.do_statement(keeper, names, "tell", a)[-1], "cell")
            self.do_statement(keeper, names, "keep", b, -7)
            self.assertEqual(self.do_statement(keeper, names, "tell", b)[-1], "number -7")
            self.do_statement(keeper, names, "set", a, 2, b)
            self.do_statement(keeper, names, "set", a, 0, a)
            self.do_statement(keeper, names, "get", c, a, 2)
            self.assertEqual(self.do_statement(keeper, names, "tell", c)[-1], "number -7")
            self.do_statement(keeper, names, "get", c, a, 1)
            self.assertEqual(self.do_statement(keeper, names, "tell", c)[-1], "nothing")
            self.do_statement(keeper, names, "get", c, a, 0)
            self.do_statement(keeper, names, "drop", a)
            self.assertEqual(self.do_statement(keeper, names, "tell", a)[-1], "nothing")
            self.do_statement(keeper, names, "get", c, c, 2)
            self.do_statement(keeper, names, "copy", a, c)
            self.do_statement(keeper, names, "copy", b, b)
            wanted = list(range(42))
            wanted[one], wanted[other], wanted[third] = -7, -7, -7
            self.assertEqual(self.standing(keeper, names), wanted)

    def test_refused(self):
        names = ["a", "b"]
        keeper = self.begin(names)
        for error, statement in [
            (NothingHeld, ("get", "a", "b", 0)), (NothingHeld, ("set", "a", 0, "b")),
        ]:
            self.assert_refused(error, self.do, keeper, deeds_of(names, statement))
        self.do_statement(keeper, names, "make", "b", 2)
        for error, statement in [
            (NoSlot, ("get", "a", "b", 2)), (NoSlot, ("set", "b", -1, "a")), (NothingHeld, ("set", "a", 0, "b")),
        ]:
            self.assert_refused(error, self.do, keeper, deeds_of(names, statement))
        self.assertEqual(self.frames(keeper), [[None, ("cell", 1)] + [None] * 6])

    def test_many_statements(self):
        """Held against Python's own lists."""
        for seed in range(12):
            rng = random.Random(seed)
            names = MANY[:rng.choice([3, 7, 8, 15, 42])]
            keeper = self.begin(names, 400, rng.randint(2, 60))
            stand = {name: None for name in names}
            for many in range(120):
                a, b = rng.choice(names), rng.choice(names)
                word = rng.choice(["make", "keep", "copy", "drop", "get", "set", "set", "tell"])
                if word == "make":
                    self.do_statement(keeper, names, "make", a, 3)
                    stand[a] = [None] * 3
                elif word == "keep":
                    self.do_statement(keeper, names, "keep", a, many)
                    stand[a] = many
                elif word == "copy":
                    self.do_statement(keeper, names, "copy", a, b)
                    stand[a] = stand[b]
                elif word == "drop":
                    self.do_statement(keeper, names, "drop", a)
                    stand[a] = None
                elif word == "get" and isinstance(stand[b], list):
                    self.do_statement(keeper, names, "get", a, b, many % 3)
                    stand[a] = stand[b][many % 3]
                elif word == "set" and isinstance(stand[a], list):
                    self.do_statement(keeper, names, "set", a, many % 3, b)
                    stand[a][many % 3] = stand[b]
                told = stand[b]
                shown = "nothing" if told is None else "cell" if isinstance(told, list) else f"number {told}"
                self.assertEqual(self.do_statement(keeper, names, "tell", b)[-1], shown)
