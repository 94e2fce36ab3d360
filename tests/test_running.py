"""[16], [17]: programs that run."""

import random

from cellkeep.errors import NoProgram
from cellkeep.reading import names_of, program_of
from cellkeep.running import run
from tests.helper import HUGE, NOT_WHOLE, KeepTest

SIXTY = "9" * 60
FRAME = 9


def text_of(*lines):
    return "\n".join(lines)


class RunTest(KeepTest):

    def assert_run(self, lines, wanted, old_words=200, young_words=20):
        text = text_of(*lines)
        told = run(text, old_words, young_words)
        self.assertEqual(told.__class__, list)
        self.assertEqual([answer.__class__ for answer in told], [str] * len(told))
        self.assertEqual(told, wanted)
        told.append("more")
        self.assertEqual(run(text, old_words, young_words), wanted)


class TellsTest(RunTest):

    def test_parameters(self):
        self.assert_parameters(run, ["text", "old_words", "young_words"])

    def test_the_empty_text(self):
        self.assertEqual(run("", 4, 2), [])
        self.assertEqual(run("again 9\nend", 4, 2), [])

    def test_tells_in_order(self):
        self.assert_run([
            "tell a", "keep a 5", "tell a", "make b 2", "tell b", "copy a b", "tell a", "drop b", "tell b", "tell a",
            "keep c -1000000000000", "tell c", "keep c 0", "tell c",
        ], ["nothing", "number 5", "cell", "cell", "nothing", "cell", "number -1000000000000", "number 0"])

    def test_get_and_set(self):
        self.assert_run([
            "make a 2", "keep b 7", "set a 1 b", "get c a 1", "tell c", "get c a 0", "tell c", "set a 0 a", "get c a 0",
            "get c c 0", "get c c 1", "tell c", "drop b", "set a 1 b", "get c a 1", "tell c",
        ], ["number 7", "nothing", "number 7", "nothing"])

    def test_a_copy_is_the_same_cell(self):
        self.assert_run(["make a 1", "copy b a", "keep c 4", "set b 0 c", "get d a 0", "tell d"], ["number 4"])

    def test_without_tells(self):
        self.assert_run(["make a 2", "keep b 4", "set a 1 b"], [])

    def test_42_names(self):
        names = [chr(97 + number // 26) + chr(97 + number % 26) for number in range(42)]
        self.assert_run([f"keep {name} {number}" for number, name in enumerate(names)]
                        + [f"tell {name}" for name in names], [f"number {number}" for number in range(42)])


class RefusalsTest(RunTest):

    def test_each(self):
        for lines, wanted in [
            (["keep a 1000000000001"], "no number"), ([f"keep a -{SIXTY}"], "no number"), (["make a 9"], "no count"),
            (["make a -1"], "no count"), ([f"make a {SIXTY}"], "no count"), (["make a 2", "get b a 2"], "no slot"),
            (["make a 2", "set a -1 b"], "no slot"), (["make a 0", f"get a a {SIXTY}"], "no slot"),
            (["get a b 0"], "nothing held"), (["set a 0 b"], "nothing held"), (["keep a 5", "get b a 0"], "nothing held"),
            (["keep a 5", "set a 9 b"], "nothing held"),
        ]:
            self.assert_run(lines, [wanted])
            self.assert_run(["tell z"] + lines + ["tell z"], ["nothing", wanted])

    def test_within_blocks(self):
        self.assert_run(["again 3", "tell a", "make a 2", "if a", "get a b 0", "tell a", "end", "end", "tell a"], [
            "nothing", "nothing held",
        ])
        self.assert_run(["again 0", "make a 9", "end", "if b", "make a 9", "end", "tell a"], ["nothing"])

    def test_no_room_for_a_cell(self):
        self.assert_run(["make a 8", "tell a", "make b 8", "tell b"], ["cell", "no room"], FRAME + 9 + 8)
        self.assert_run(["make a 8", "tell a", "make b 8", "tell b"], ["cell", "cell"], FRAME + 9 + 9)

    def test_no_room_for_frames(self):
        self.assert_run(["tell a"], ["nothing"], FRAME)
        self.assert_run(["tell a"], ["no room"], FRAME - 1)
        lines = [f"tell {name}" for name in "abcdefgh"]
        self.assert_run(lines[:7], ["nothing"] * 7, FRAME)
        self.assert_run(lines, ["nothing"] * 8, 2 * FRAME)
        self.assert_run(lines, ["no room"], 2 * FRAME - 1)
        # Names count wherever they stand.
        self.assert_run(["again 0", "tell a", "end"], ["no room"], FRAME - 1)

    def test_no_program_ahead_of_no_count(self):
        for text in ["x", "\n", "end", "again 10\nend", None, 5]:
            for old, young in [(60, 30), (3, 30), (60, 1), (None, "x")]:
                self.assert_refused(NoProgram, run, text, old, young)

    def test_no_text(self):
        for thing in [thing for thing in NOT_WHOLE if not isinstance(thing, str)] + [0, HUGE, b"tell a", ["tell a"]]:
            self.assert_refused(NoProgram, run, thing, 60, 30)

    def test_no_count(self):
        for text in ["", "tell a", "make a 9"]:
            self.assert_words_refused(lambda old, young: run(text, old, young))


class BlocksTest(RunTest):

    def test_again(self):
        for count in range(10):
            self.assert_run([f"again {count}", "tell a", "end"], ["nothing"] * count)

    def test_again_within_again(self):
        self.assert_run(["again 2", "tell a", "again 3", "tell b", "keep b 1", "end", "keep a 2", "end"], [
            "nothing", "nothing", "number 1", "number 1", "number 2", "number 1", "number 1", "number 1",
        ])
        self.assert_run(["again 3", "again 3", "again 3", "tell a", "end", "end", "end"], ["nothing"] * 27)
        self.assert_run(["again 9", "again 9", "again 9", "end", "end", "end", "tell a"], ["nothing"])

    def test_if(self):
        for line, done in [
            ("make a 0", True), ("make a 8", True), ("keep a 1", True), ("keep a -1", True), ("keep a 1000000000000", True),
            ("keep a 0", False), ("drop a", False), ("copy a b", False),
        ]:
            self.assert_run([line, "if a", "tell b", "end", "tell c"], ["nothing"] * (1 + done))

    def test_if_is_asked_where_it_begins(self):
        self.assert_run(["keep a 1", "if a", "drop a", "tell a", "end", "if a", "tell a", "end"], ["nothing"])
        self.assert_run(["again 3", "if a", "tell a", "end", "keep a 5", "end"], ["number 5", "number 5"])

    def test_if_within_if(self):
        self.assert_run(["keep a 1", "if a", "if b", "tell a", "end", "if a", "tell b", "end", "end"], ["nothing"])

    def test_if_of_any_frame(self):
        lines = [f"keep {name} {number % 2}" for number, name in enumerate("abcdefghijklmnopqrstuvwxyz")]
        for name in "abcdefghijklmnopqrstuvwxyz":
            lines += [f"if {name}", f"tell {name}", "end"]
        self.assert_run(lines, ["number 1"] * 13)

    def test_if_leaves_names(self):
        self.assert_run(["make a 1", "keep b 3", "set a 0 b", "if a", "end", "if b", "end", "tell a", "tell b", "get c a 0",
                         "tell c"], ["cell", "number 3", "number 3"])


class TooLongTest(RunTest):

    def test_a_hundred_and_one_more(self):
        self.assert_run(["tell a"] * 100, ["nothing"] * 100)
        self.assert_run(["tell a"] * 101, ["nothing"] * 100 + ["too long"])
        self.assert_run(["tell a"] * 300, ["nothing"] * 100 + ["too long"])

    def test_each_statement_counts(self):
        lines = ["make a 1", "keep b 2", "copy c a", "drop d", "get d a 0", "set a 0 b", "tell a"] * 14
        self.assert_run(lines + ["tell b"] * 2, ["cell"] * 14 + ["number 2"] * 2)
        self.assert_run(lines + ["tell b"] * 3, ["cell"] * 14 + ["number 2"] * 2 + ["too long"])

    def test_blocks_do_not_count(self):
        self.assert_run(["again 9", "again 9", "keep a 1", "end", "end", "again 9", "tell a", "end", "again 9", "tell a", "end",
                         "tell a"], ["number 1"] * 19)
        self.assert_run(["keep a 1"] * 99 + ["if a", "tell a", "end", "if a", "end", "again 9", "end"], ["number 1"])
        self.assert_run(["keep a 1"] * 99 + ["if a", "tell a", "tell a", "end"], ["number 1", "too long"])
        self.assert_run(["tell a"] * 100 + ["again 0", "tell a", "end", "if a", "tell a", "end"], ["nothing"] * 100)

    def test_each_time_counts(self):
        self.assert_run(["again 9", "again 9", "again 9", "tell a", "end", "end", "end"], ["nothing"] * 100 + ["too long"])

    def test_a_refusal_ends_first(self):
        self.assert_run(["tell a"] * 99 + ["make a 9", "tell a"], ["nothing"] * 99 + ["no count"])
        self.assert_run(["tell a"] * 100 + ["make a 9"], ["nothing"] * 100 + ["too long"])

    def test_a_refused_one_was_begun(self):
        self.assert_run(["tell a"] * 99 + ["get a b 0"], ["nothing"] * 99 + ["nothing held"])


class RoomTest(RunTest):

    def test_what_no_name_reaches_is_free(self):
        self.assert_run(["again 9", "make a 8", "drop a", "end", "tell a"], ["nothing"], FRAME + 9)
        self.assert_run(["again 9", "make a 8", "copy b a", "drop a", "drop b", "end", "tell b"], ["nothing"], FRAME + 9)

    def test_what_the_name_stood_for_counts(self):
        self.assert_run(["make a 8", "make a 0", "tell a"], ["no room"], FRAME + 9)
        self.assert_run(["make a 8", "make a 0", "tell a"], ["cell"], FRAME + 10)
        self.assert_run(["make a 8", "drop a", "make a 8", "tell a"], ["cell"], FRAME + 9)

    def test_what_hands_held_does_not_count(self):
        # The cell was told, asked for and got, but no name reaches it any more.
        for lines in [
            ["make a 8", "if a", "drop a", "end"], ["make a 8", "if a", "end", "drop a"],
            ["make a 7", "set a 0 a", "get b a 0", "drop a", "drop b"], ["make a 7", "set a 0 a", "keep a 1"],
        ]:
            self.assert_run(lines + ["make c 8", "tell c"], ["cell"], FRAME + 9)
        self.assert_run(["make a 8", "tell a", "drop a", "make c 8", "tell c"], ["cell", "cell"], FRAME + 9)

    def test_if_leaves_no_cell_in_a_hand(self):
        self.assert_run(["make a 8", "copy b a", "if a", "drop a", "drop b", "make c 8", "tell c", "end"], ["cell"], FRAME + 9)

    def test_cells_in_cells_count(self):
        chain = ["make a 1", "make b 1", "set b 0 a", "drop a", "make c 0"]
        self.assert_run(chain + ["tell c"], ["cell"], FRAME + 5)
        self.assert_run(chain + ["tell c"], ["no room"], FRAME + 4)

    def test_many_programs(self):
        """Held against Python's own lists, with just as much room as the names' cells want, or a little less."""
        refused = done = 0
        for seed in range(300):
            rng = random.Random(seed)
            old, young = rng.randint(9, 60), rng.randint(2, 30)
            lines = self.lines(rng)
            wanted = self.wanted(text_of(*lines), old)
            self.assertEqual(run(text_of(*lines), old, young), wanted, (seed, old, young))
            refused += wanted[-1:] == ["no room"]
            done += "no room" not in wanted
        self.assertGreater(min(refused, done), 50)

    def lines(self, rng):
        names = "abcdefghijklmnop"[:rng.choice([3, 5, 9, 16])]
        lines, deep = [], 0
        for many in range(rng.randint(5, 40)):
            a, b = rng.choice(names), rng.choice(names)
            choice = rng.random()
            if choice < 0.12 and deep < 3:
                lines.append(rng.choice([f"again {rng.randint(0, 4)}", f"if {a}"]))
                deep += 1
            elif choice < 0.25 and deep > 0:
                lines.append("end")
                deep -= 1
            else:
                # Slots are asked for just behind their make, so that most programs come to their end.
                lines.append(rng.choice([
                    f"make {a} {rng.randint(1, 8)}", f"keep {a} {rng.randint(0, 3)}", f"copy {a} {b}", f"drop {a}", f"tell {a}",
                    f"make {a} 2\nset {a} {rng.randint(0, 1)} {b}", f"make {a} 1\nset {a} 0 {b}\nget {b} {a} 0", f"tell {b}",
                ]))
        return lines + ["end"] * deep

    def wanted(self, text, old_words):
        program = program_of(text)
        names = names_of(program)
        frames = FRAME * ((len(names) + 6) // 7)
        if frames > old_words:
            return ["no room"]
        stand, told, begun = {name: None for name in names}, [], [0]

        def words():
            met, coming = [], list(stand.values())
            while coming:
                thing = coming.pop()
                if isinstance(thing, list) and not any(cell is thing for cell in met):
                    met.append(thing)
                    coming += thing
            return frames + sum(len(cell) + 1 for cell in met)

        def end_of(statement):
            """The text that ends the run, None where it goes on."""
            if begun[0] == 100:
                return "too long"
            begun[0] += 1
            word, a = statement[:2]
            if word == "make":
                if words() + statement[2] + 1 > old_words:
                    return "no room"
                stand[a] = [None] * statement[2]
            elif word == "set":
                stand[a][statement[2]] = stand[statement[3]]
            elif word == "get":
                stand[a] = stand[statement[2]][statement[3]]
            elif word == "tell":
                thing = stand[a]
                told.append("nothing" if thing is None else "cell" if isinstance(thing, list) else f"number {thing}")
            else:
                stand[a] = {"keep": lambda: statement[2], "copy": lambda: stand[statement[2]], "drop": lambda: None}[word]()
            return None

        def done(block):
            """Whether the run goes on behind the block."""
            for statement in block:
                if statement[0] in ("again", "if"):
                    thing = statement[1] if statement[0] == "again" else stand[statement[1]]
                    times = thing if statement[0] == "again" else int(isinstance(thing, list) or thing not in (None, 0))
                    if not all(done(statement[2]) for time in range(times)):
                        return False
                else:
                    end = end_of(statement)
                    if end is not None:
                        told.append(end)
                        return False
            return True

        done(program)
        return told
