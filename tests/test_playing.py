"""[13], [14]: lines played on a new keeper."""

from cellkeep.playing import played
from tests.helper import MOST_NUMBER, KeepTest


class PlayingTest(KeepTest):

    def assert_played(self, pairs, hands=3, old_words=40, young_words=10):
        """Pairs of a line and the answer to it."""
        lines = [line for line, answer in pairs]
        ahead = list(lines)
        told = played(hands, old_words, young_words, lines)
        self.assertEqual(told.__class__, list)
        self.assertEqual([answer.__class__ for answer in told], [str] * len(pairs))
        self.assertEqual(list(zip(lines, told)), pairs)
        self.assertEqual(lines, ahead)
        self.assertEqual(played(hands, old_words, young_words, lines), told)


class AnswersTest(PlayingTest):

    def test_parameters(self):
        self.assert_parameters(played, ["hands", "old_words", "young_words", "lines"])

    def test_no_lines(self):
        self.assert_played([])

    def test_done(self):
        self.assert_played([
            ("make 0 2", "done"), ("keep 1 5", "done"), ("put 0 1 1", "done"), ("take 2 0 1", "done"),
            ("share 1 0", "done"), ("last 0 7", "done"), ("young", "done"), ("all", "done"), ("drop 0", "done"),
        ])

    def test_read(self):
        self.assert_played([
            ("read 0", "nothing"), ("make 0 2", "done"), ("read 0", "cell"), ("keep 0 0", "done"), ("read 0", "number 0"),
            ("keep 1 -12", "done"), ("read 1", "number -12"), (f"keep 2 {MOST_NUMBER}", "done"),
            ("read 2", "number 1000000000000"), (f"keep 2 -{MOST_NUMBER}", "done"), ("read 2", "number -1000000000000"),
            ("drop 1", "done"), ("read 1", "nothing"),
        ])

    def test_what_the_deeds_do(self):
        self.assert_played([
            ("make 0 3", "done"), ("keep 1 5", "done"), ("put 0 2 1", "done"), ("keep 1 6", "done"), ("put 0 1 1", "done"),
            ("drop 1", "done"), ("take 1 0 2", "done"), ("read 1", "number 5"), ("take 1 0 1", "done"),
            ("read 1", "number 6"), ("take 1 0 0", "done"), ("read 1", "nothing"), ("share 2 0", "done"),
            ("read 2", "cell"), ("take 2 2 1", "done"), ("read 2", "number 6"), ("read 0", "cell"),
        ])

    def test_name_and_find(self):
        self.assert_played([
            ("make 0 1", "done"), ("name 0", "name 0"), ("name 0", "name 1"), ("make 1 0", "done"), ("name 1", "name 2"),
            ("find 1 2", "found"), ("read 2", "cell"), ("drop 1", "done"), ("find 2 1", "found"), ("drop 1", "done"),
            ("young", "done"), ("find 2 0", "gone"), ("read 0", "nothing"), ("find 0 0", "found"), ("read 0", "cell"),
            ("drop 0", "done"), ("drop 2", "done"), ("all", "done"), ("find 0 0", "gone"), ("find 1 0", "gone"),
        ])

    def test_many_names(self):
        pairs = [("make 0 0", "done")] + [("name 0", f"name {number}") for number in range(12)]
        self.assert_played(pairs + [("find 11 1", "found"), ("find 12 1", "no name")])

    def test_said(self):
        self.assert_played([
            ("said", "said"), ("make 0 0", "done"), ("last 0 7", "done"), ("said", "said"), ("drop 0", "done"),
            ("said", "said"), ("young", "done"), ("said", "said 7"), ("make 0 0", "done"), ("last 0 -3", "done"),
            ("last 0 0", "done"), ("last 0 1000000000000", "done"), ("drop 0", "done"), ("all", "done"),
            ("said", "said 7 -3 0 1000000000000"), ("all", "done"), ("said", "said 7 -3 0 1000000000000"),
        ])

    def test_young_and_all_are_not_the_same(self):
        self.assert_played([
            ("make 0 8", "done"), ("last 0 1", "done"), ("drop 0", "done"), ("young", "done"), ("said", "said"),
            ("all", "done"), ("said", "said 1"),
        ], young_words=4)


class RefusalsTest(PlayingTest):

    def test_each(self):
        self.assert_played([
            ("keep 0 1000000000001", "no number"), ("make 0 9", "no count"), ("make 0 -1", "no count"),
            ("make 0 8", "done"), ("make 1 8", "no room"), ("take 1 0 8", "no slot"), ("put 0 -1 1", "no slot"),
            ("read 3", "no hand"), ("take 0 1 0", "nothing held"), ("find 0 0", "no name"), ("reads 0", "no deed"),
            ("last 0 -1000000000001", "no number"), ("read 0", "cell"), ("read 1", "nothing"),
        ], old_words=12)

    def test_no_hand(self):
        for line in [
            "make 3 0", "keep 3 0", "share 3 0", "share 0 3", "drop 3", "read -1", "take 3 0 0", "take 0 3 0",
            "put 3 0 0", "put 0 0 3", "name 3", "find 0 3", "last 3 0",
        ]:
            self.assert_played([(line, "no hand"), ("read 0", "nothing")])

    def test_nothing_held(self):
        for line in ["take 0 1 0", "put 0 0 1", "name 0", "last 0 0"]:
            self.assert_played([(line, "nothing held"), ("keep 0 4", "done"), (line, "nothing held")])

    def test_first_one_that_holds(self):
        huge = "9" * 60
        self.assert_played([
            (f"make {huge} {huge}", "no hand"), (f"make 0 {huge}", "no count"), (f"keep -{huge} {huge}", "no hand"),
            (f"keep 0 {huge}", "no number"), (f"find {huge} {huge}", "no hand"), (f"find {huge} 0", "no name"),
            (f"take 0 0 {huge}", "nothing held"), (f"last 0 {huge}", "nothing held"), (f"keep 0 9{huge}", "no deed"),
        ])

    def test_no_deed(self):
        for line in [
            "", " ", "make", "make 0", "make 0 1 2", "make  0 1", " make 0 1", "make 0 1 ", "make 0 01", "make 0 -0",
            "make 0 +1", "make 0 1\n", "make\t0\t1", "Make 0 1", "tell 0", "said 0", "young 1", "all  ",
        ]:
            self.assert_played([(line, "no deed"), ("read 0", "nothing"), ("said", "said")])

    def test_no_text(self):
        self.assertEqual(played(1, 4, 2, [None, 5, ("said",), b"said", "said"]), ["no deed"] * 4 + ["said"])

    def test_goes_on_behind_a_refusal(self):
        self.assert_played([
            ("make 0 5", "done"), ("make 1 5", "no room"), ("name 0", "name 0"), ("drop 0", "done"),
            ("make 1 5", "done"), ("find 0 0", "gone"), ("read 1", "cell"),
        ], old_words=10, young_words=4)

    def test_refused_as_a_keeper(self):
        self.assert_bounds_refused(played, [])
        self.assert_bounds_refused(played, ["read 0", "none"])
        for hands, old_words, young_words in [(1, 4, 2), (6, 2000, 500)]:
            self.assertEqual(played(hands, old_words, young_words, [f"read {hands - 1}", f"read {hands}"]), [
                "nothing", "no hand",
            ])
