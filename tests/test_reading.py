"""[16]: programs as lists of statements."""

import random

from cellkeep.errors import NoProgram
from cellkeep.reading import names_of, program_of
from tests.helper import NOT_WHOLE, KeepTest

SIXTY = 10 ** 60 - 1
WORDS = ["make", "keep", "copy", "drop", "get", "set", "tell", "again", "if", "end"]
LETTERS = "abcdefghijklmnopqrstuvwxyz"
# A line of each statement that is no block, and what it is read as.
STATEMENTS = [
    ("make a 3", ("make", "a", 3)), ("keep a -5", ("keep", "a", -5)), ("copy a b", ("copy", "a", "b")),
    ("drop a", ("drop", "a")), ("get a b 2", ("get", "a", "b", 2)), ("set a 2 b", ("set", "a", 2, "b")),
    ("tell a", ("tell", "a")),
]


def name_of(number):
    """An unlike name for each number."""
    return LETTERS[number // 26] + LETTERS[number % 26]


class ReadingTest(KeepTest):

    def assert_program(self, text, wanted):
        told = program_of(text)
        self.assertEqual(told, wanted)
        self.assert_form(told)
        told.clear()
        self.assertEqual(program_of(text), wanted)

    def assert_form(self, block):
        self.assertEqual(block.__class__, list)
        for statement in block:
            self.assertEqual(statement.__class__, tuple)
            for part in statement:
                self.assertIn(part.__class__, (str, int, list))
            if statement[0] in ("again", "if"):
                self.assert_form(statement[2])

    def assert_none(self, *texts):
        for text in texts:
            self.assert_refused(NoProgram, program_of, text)


class StatementsTest(ReadingTest):

    def test_parameters(self):
        self.assert_parameters(program_of, ["text"])
        self.assert_parameters(names_of, ["program"])

    def test_the_empty_text(self):
        self.assert_program("", [])

    def test_each(self):
        for line, statement in STATEMENTS:
            self.assert_program(line, [statement])
        self.assert_program("again 3\nend", [("again", 3, [])])
        self.assert_program("if a\nend", [("if", "a", [])])

    def test_several(self):
        self.assert_program("\n".join(line for line, statement in STATEMENTS), [statement for line, statement in STATEMENTS])

    def test_the_same_name_twice(self):
        self.assert_program("copy a a\nget b b 0\nset c 0 c", [("copy", "a", "a"), ("get", "b", "b", 0), ("set", "c", 0, "c")])

    def test_numbers_that_notes_can_write(self):
        for number in [0, 1, -1, 8, 9, 10 ** 12, 10 ** 12 + 1, SIXTY, -SIXTY]:
            self.assert_program(f"make a {number}", [("make", "a", number)])
            self.assert_program(f"keep a {number}", [("keep", "a", number)])
            self.assert_program(f"get a b {number}", [("get", "a", "b", number)])
            self.assert_program(f"set a {number} b", [("set", "a", number, "b")])

    def test_other_numbers(self):
        for number in [
            "", "-", "-0", "00", "01", "-01", "+1", "1.0", "1e3", "1_0", "0x1", "a", "\u0661", "\uff11", "\u00b2", "1\t", "1\r",
            str(SIXTY + 1), str(-SIXTY - 1), "0" * 61, "9" * 5000,
        ]:
            self.assert_none(f"make a {number}", f"keep a {number}", f"get a b {number}", f"set a {number} b")
            self.assert_none(f"again {number}\nend")

    def test_parts_too_few_or_too_many(self):
        for line, statement in STATEMENTS:
            parts = line.split(" ")
            for many in range(1, len(parts)):
                self.assert_none(" ".join(parts[:many]))
            for more in ["a", "0", "end", ""]:
                self.assert_none(f"{line} {more}")
        self.assert_none("again\nend", "again 1 1\nend", "again a\nend", "if\nend", "if a a\nend", "if 1\nend", "if a\nend a",
                         "if a\nend 1", "if a\nend if")

    def test_parts_of_another_sort(self):
        self.assert_none("make 3 a", "make a b", "make 1 1", "keep a b", "keep 1 1", "copy a 1", "copy 1 a", "drop 1",
                         "get a 2 b", "get a b c", "get 1 b 2", "set a b 2", "set a b c", "set 1 2 b", "tell 1")

    def test_other_words(self):
        self.assert_none("mak a 3", "Make a 3", "MAKE a 3", "makes a 3", "a", "a make 3", "put a 0 b", "take a b 0", "share a b",
                         "read a", "# why", "again", "end", "said", "young", "name a", "pass")

    def test_blanks_and_line_ends(self):
        for line, statement in STATEMENTS:
            self.assert_none(" " + line, line + " ", line.replace(" ", "  ", 1), line.replace(" ", "\t", 1), line + "\n",
                             "\n" + line, line + "\n\n" + line, line + "\r\n" + line, line + "\r" + line, line + "\x0b" + line,
                             line + "\x0c" + line, line + "\u2028" + line, line + "\x85" + line, line + "\t", line + "\r",
                             line.replace(" ", "\n", 1), line.replace(" ", "\u00a0", 1), "\ufeff" + line)
            self.assert_program(line + "\n" + line, [statement, statement])
        self.assert_none("\n", "\n\n", " ", "  ", "\t", "if a\n\nend", "if a\nend\n", "if a\n end", " if a\nend", "if a\nend ")

    def test_no_text(self):
        self.assert_none(*[thing for thing in NOT_WHOLE if not isinstance(thing, str)])
        self.assert_none(0, 1, b"", b"tell a", ["tell a"], ("tell a",), [("tell", "a")], {"tell a": 1})


class NamesTest(ReadingTest):

    def lines(self, name):
        return [f"make {name} 1", f"keep {name} 1", f"copy {name} b", f"copy b {name}", f"drop {name}", f"get {name} b 1",
                f"get b {name} 1", f"set {name} 1 b", f"set b 1 {name}", f"tell {name}", f"if {name}\nend"]

    def test_names(self):
        for name in list(LETTERS) + ["ab", "abcdefgh", "zzzzzzzz", "makes", "ends", "iff", "en", "i", "said", "put", "nothing"]:
            for text in self.lines(name):
                self.assertIn(name, names_of(program_of(text)))

    def test_no_names(self):
        for name in [
            "", "abcdefghi", "aaaaaaaaaaaaaaaa", "A", "aB", "Ab", "a1", "1a", "1", "-1", "a_b", "_", "a-b", "a.b", "\u00e4", "\u0430",
            "\u00df", "a\t", "\uff41", "a'", "'a'", "@", "`", "[", "{", "a\x00", "\u0131",
        ]:
            for text in self.lines(name):
                self.assert_none(text)

    def test_words_that_no_name_may_be(self):
        for word in WORDS:
            for text in self.lines(word):
                self.assert_none(text)

    def test_at_most_42(self):
        lines = [f"tell {name_of(number)}" for number in range(43)]
        self.assertEqual(len(program_of("\n".join(lines[:42]))), 42)
        self.assertEqual(names_of(program_of("\n".join(lines[:42]))), [name_of(number) for number in range(42)])
        self.assert_none("\n".join(lines), "\n".join(lines[:42] + ["copy aa zz"]), "\n".join(lines[:42] + ["if zz\nend"]))
        # However often they stand there, names count once.
        self.assertEqual(len(program_of("\n".join(lines[:42] * 3))), 126)

    def test_names_within_blocks_count(self):
        lines = [f"tell {name_of(number)}" for number in range(43)]
        self.assert_none("\n".join(["again 0"] + lines + ["end"]), "\n".join(lines[:42] + ["again 0", lines[42], "end"]))
        self.assertEqual(len(names_of(program_of("\n".join(["again 0"] + lines[:42] + ["end"])))), 42)


class BlocksTest(ReadingTest):

    def test_what_is_between(self):
        self.assert_program("tell a\nagain 2\ntell b\ntell c\nend\ntell d", [
            ("tell", "a"), ("again", 2, [("tell", "b"), ("tell", "c")]), ("tell", "d"),
        ])
        self.assert_program("if a\ntell b\nend\nif c\nend", [("if", "a", [("tell", "b")]), ("if", "c", [])])

    def test_within_one_another(self):
        self.assert_program("again 1\nif a\nagain 2\ntell b\nend\ntell c\nend\ntell d\nend\ntell e", [
            ("again", 1, [("if", "a", [("again", 2, [("tell", "b")]), ("tell", "c")]), ("tell", "d")]), ("tell", "e"),
        ])
        self.assert_program("if a\nif b\nend\nif c\nif d\nend\nend\nend", [
            ("if", "a", [("if", "b", []), ("if", "c", [("if", "d", [])])]),
        ])

    def test_three_deep_and_four(self):
        for begin in ["again 2", "if a"]:
            for deep in range(1, 4):
                program_of("\n".join([begin] * deep + ["tell b"] + ["end"] * deep))
                program_of("\n".join(([begin] * deep + ["end"] * deep) * 3))
            for deep in [4, 5, 10]:
                self.assert_none("\n".join([begin] * deep + ["tell b"] + ["end"] * deep))
                self.assert_none("\n".join([begin] * deep + ["end"] * deep))
        self.assert_none("again 1\nif a\nagain 1\nif a\nend\nend\nend\nend")
        # Four blocks, but three deep.
        program_of("again 1\nif a\nagain 1\nend\nif a\nend\nend\nend")

    def test_not_ended(self):
        self.assert_none("again 1", "if a", "again 1\ntell a", "if a\nif b\nend", "tell a\nagain 1", "if a\nend\nif a")

    def test_ends_without_a_block(self):
        self.assert_none("end", "tell a\nend", "if a\nend\nend", "end\nif a", "end\nif a\nend", "again 1\nend\nend\nagain 1")

    def test_again(self):
        for count in range(10):
            self.assert_program(f"again {count}\ntell a\nend", [("again", count, [("tell", "a")])])
        for count in [10, 11, 99, -1, -9, SIXTY, -SIXTY]:
            self.assert_none(f"again {count}\ntell a\nend")


class NamesOfTest(ReadingTest):

    def assert_names(self, text, names):
        program = program_of(text)
        told = names_of(program)
        self.assertEqual(told.__class__, list)
        self.assertEqual(told, names)
        told.append("more")
        self.assertEqual(names_of(program), names)
        self.assertEqual(program, program_of(text))

    def test_none(self):
        self.assert_names("", [])
        self.assert_names("again 3\nend", [])

    def test_as_they_come(self):
        self.assert_names("copy b a", ["b", "a"])
        self.assert_names("get c b 1", ["c", "b"])
        self.assert_names("set z 1 a", ["z", "a"])
        self.assert_names("make c 1\nkeep b 2\ndrop a\ntell d", ["c", "b", "a", "d"])

    def test_each_once(self):
        self.assert_names("copy b b\ncopy a b\ncopy b a\ncopy c a", ["b", "a", "c"])

    def test_in_blocks(self):
        self.assert_names("tell e\nif d\ntell c\nagain 0\ntell b\nend\ntell a\nend\ntell f\ntell c", list("edcbaf"))

    def test_a_program_that_was_not_read(self):
        program = [("again", 2, [("if", "long name", [("set", "b", 7, "A")])]), ("copy", "b", "9")]
        self.assertEqual(names_of(program), ["long name", "b", "A", "9"])


class ManyTextsTest(ReadingTest):

    def test_lines_in_any_order(self):
        """Texts of lines that are statements each, held against a plain count of blocks."""
        lines = [line for line, statement in STATEMENTS] + ["again 2", "if a", "end"] * 3
        read = 0
        for seed in range(1500):
            rng = random.Random(seed)
            chosen = [rng.choice(lines) for many in range(rng.randint(1, 9))]
            deep = [0]
            for line in chosen:
                deep.append(deep[-1] + (line in ("again 2", "if a")) - (line == "end"))
            text = "\n".join(chosen)
            if min(deep) < 0 or max(deep) > 3 or deep[-1] != 0:
                self.assert_none(text)
            else:
                read += 1
                self.assertEqual(self.written(program_of(text)), chosen)
        self.assertGreater(read, 100)

    def written(self, block):
        told = []
        for statement in block:
            if statement[0] in ("again", "if"):
                told += [f"{statement[0]} {statement[1]}"] + self.written(statement[2]) + ["end"]
            else:
                told.append(" ".join(str(part) for part in statement))
        return told
