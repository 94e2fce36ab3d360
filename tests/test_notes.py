"""Deeds written as lines, there and back."""

from cellkeep.errors import NoDeed
from cellkeep.notes import deed_of, line_of
from tests.helper import NOT_WHOLE, KeepTest

SIXTY = 10 ** 60 - 1

# Each word, how many numbers it has, and a line.
WORDS = [
    ("make", 2), ("keep", 2), ("share", 2), ("drop", 1), ("read", 1), ("take", 3), ("put", 3),
    ("name", 1), ("find", 2), ("last", 2), ("young", 0), ("all", 0), ("said", 0),
]
NUMBERS = [0, 1, 9, 10, 100, -1, -10, 1234567890, -10 ** 12, 10 ** 59, SIXTY, -SIXTY]
NO_NUMBERS = [
    "", "-", "--1", "-0", "00", "01", "-01", "+1", "+0", "1-", "1.", "1.0", "1e3", "1_0", "0x1", "0b1", "a", "O", "l",
    "1,", "1'0", "\u0661", "\u00b2", "\uff11", "\u22121", "\u20131", "1\n", "\n1", "1\t", "\t1", "1\r", "1\x0b", "1\x0c",
    "1\u00a0", "1\x00", "None", "True", "1" + "0" * 60, "-1" + "0" * 60, "9" * 61, "-" + "9" * 61, "0" * 61, "9" * 5000,
]


class NotesTest(KeepTest):

    def assert_both_ways(self, deed, line):
        self.assertEqual(line_of(deed), line)
        told = deed_of(line)
        self.assertEqual(told, deed)
        self.assertEqual(told.__class__, tuple)
        self.assertEqual([part.__class__ for part in told], [str] + [int] * (len(deed) - 1))

    def test_parameters(self):
        self.assert_parameters(line_of, ["deed"])
        self.assert_parameters(deed_of, ["line"])

    def test_each_word(self):
        for deed, line in [
            (("make", 0, 8), "make 0 8"), (("keep", 5, -77), "keep 5 -77"), (("share", 1, 2), "share 1 2"),
            (("drop", 3), "drop 3"), (("read", 0), "read 0"), (("take", 0, 1, 2), "take 0 1 2"),
            (("put", 2, 1, 0), "put 2 1 0"), (("name", 4), "name 4"), (("find", 12, 0), "find 12 0"),
            (("last", 0, 1000000000000), "last 0 1000000000000"), (("young",), "young"), (("all",), "all"),
            (("said",), "said"),
        ]:
            self.assert_both_ways(deed, line)

    def test_numbers(self):
        for word, many in WORDS:
            for place in range(many):
                for number in NUMBERS:
                    numbers = [7] * many
                    numbers[place] = number
                    line = " ".join([word] + [f"{number:d}" for number in numbers])
                    self.assert_both_ways((word,) + tuple(numbers), line)

    def test_numbers_of_sixty_figures(self):
        self.assert_both_ways(("keep", 0, SIXTY), "keep 0 " + "9" * 60)
        self.assert_both_ways(("keep", 0, -SIXTY), "keep 0 -" + "9" * 60)
        self.assert_both_ways(("keep", -10 ** 59, 0), "keep -1" + "0" * 59 + " 0")


class NoDeedTest(KeepTest):

    def assert_no_deed(self, line):
        self.assert_refused(NoDeed, deed_of, line)

    def test_another_word(self):
        for line in [
            "", " ", "mak 0 1", "makes 0 1", "Make 0 1", "MAKE 0 1", "\ufeffmake 0 1", "m\u0430ke 0 1", "0 1", "0",
            "tell 0", "get 0 0", "set 0 0 0", "copy 0 0", "image", "old", "hands", "none", "-1", "make0 1", "make,0,1",
        ]:
            self.assert_no_deed(line)

    def test_too_few_and_too_many_numbers(self):
        for word, many in WORDS:
            for count in range(6):
                line = " ".join([word] + ["0"] * count)
                if count != many:
                    self.assert_no_deed(line)
                else:
                    self.assertEqual(deed_of(line), (word,) + (0,) * many)

    def test_blanks(self):
        for word, many in WORDS:
            parts = [word] + ["0"] * many
            line = " ".join(parts)
            self.assert_no_deed(" " + line)
            self.assert_no_deed(line + " ")
            self.assert_no_deed("  ".join(parts + [""]))
            if many > 0:
                for sign in ["  ", "", "\t", "\n", "\r", "\u00a0", "\u2003", "\x0b", "\x1f", ",", " \t", "\n "]:
                    self.assert_no_deed(sign.join(parts))
                    self.assert_no_deed(" ".join(parts[:-1]) + sign + parts[-1])

    def test_line_ends(self):
        for word, many in WORDS:
            line = " ".join([word] + ["0"] * many)
            for sign in ["\n", "\t", "\r", "\r\n", "\x0b", "\x0c", "\x1c", "\x85", "\u2028", "\u00a0", "\x00", "\ufeff"]:
                self.assert_no_deed(line + sign)
                self.assert_no_deed(sign + line)
            self.assert_no_deed(line + "\n" + line)

    def test_no_numbers(self):
        for word, many in WORDS:
            for place in range(many):
                for text in NO_NUMBERS:
                    parts = ["7"] * many
                    parts[place] = text
                    self.assert_no_deed(" ".join([word] + parts))

    def test_other_signs(self):
        for sign in [chr(code) for code in range(256) if chr(code) not in "0123456789"]:
            for text in [sign, "1" + sign, sign + sign + "1", "1" + sign + "1"]:
                self.assert_no_deed("drop " + text)

    def test_no_text(self):
        for thing in [thing for thing in NOT_WHOLE if not isinstance(thing, str)]:
            self.assert_no_deed(thing)
        for thing in [0, 1, b"said", ["said"], ("said",), ["make", "0", "1"], ("make", 0, 1), {"said": 0}, str]:
            self.assert_no_deed(thing)
