"""[15]: a keeper written as seven rows, and read from them."""

import random

from cellkeep.errors import NoImage
from cellkeep.image import image_of, keeper_of
from cellkeep.keeper import Keeper
from cellkeep.playing import answer_to
from tests.helper import MOST_NUMBER, NOT_WHOLE, CollectTest, World, some_lines

ROWS = ["image", "old", "young", "hands", "names", "tickets", "said"]


def keeper_behind(lines, hands=3, old_words=40, young_words=10):
    keeper = Keeper(hands, old_words, young_words)
    for line in lines:
        answer_to(keeper, line)
    return keeper


# A cell of nine words is too great for a half of eight.
LINES = [
    "make 0 8", "keep 1 5", "put 0 0 1", "make 1 1", "put 0 3 1", "name 0", "name 1", "last 1 77", "make 2 0",
    "name 2", "last 2 -6", "last 0 9", "drop 2", "young", "make 2 2", "put 2 0 0",
]
IMAGE = [
    "image 3 40 8 1",
    "old 68 10 -1 -1 97 -1 -1 -1 -1",
    "young 10 -1 16 1 -1",
    "hands 1 97 101",
    "names 0 48 -1",
    "tickets 0 48 77 2 0 9",
    "said -6",
]


class ImageTest(CollectTest):

    def assert_image(self, keeper, rows):
        """These rows, told twice, and nothing is changed."""
        ahead = World.of(keeper.heap).state()
        told = image_of(keeper)
        self.assertEqual(told.__class__, list)
        self.assertEqual([row.__class__ for row in told], [str] * 7)
        self.assertEqual(told, rows)
        told.append("more")
        self.assertEqual(image_of(keeper), rows)
        self.assertEqual(World.of(keeper.heap).state(), ahead)
        self.assert_there_and_back(rows)

    def assert_there_and_back(self, rows):
        ahead = list(rows)
        keeper = keeper_of(rows)
        self.assertEqual(rows, ahead)
        self.assertEqual(keeper.__class__, Keeper)
        self.assertEqual(image_of(keeper), rows)
        self.assertEqual(keeper.unsound(), [])
        self.assert_fits(World.of(keeper.heap))
        return keeper


class WrittenTest(ImageTest):

    def test_parameters(self):
        self.assert_parameters(image_of, ["keeper"])
        self.assert_parameters(keeper_of, ["lines"])

    def test_new(self):
        for hands, old, young in [(1, 4, 2), (6, 2000, 500), (3, 40, 8)]:
            self.assert_image(Keeper(hands, old, young), [
                f"image {hands} {old} {young} 0", "old", "young", "hands" + " -1" * hands, "names", "tickets", "said",
            ])

    def test_makes_and_puts(self):
        keeper = keeper_behind(["make 0 2", "make 1 8", "keep 2 -7", "put 0 1 2", "put 1 0 0", "put 0 0 1"], 3, 40, 8)
        self.assert_image(keeper, [
            "image 3 40 8 0", "old 68 81 -1 -1 -1 -1 -1 -1 -1", "young 16 1 -14", "hands 81 1 -14", "names", "tickets",
            "said",
        ])

    def test_great_numbers(self):
        keeper = keeper_behind([f"keep 0 {MOST_NUMBER}", f"keep 1 -{MOST_NUMBER}"], 2, 4, 2)
        self.assert_image(keeper, [
            "image 2 4 2 0", "old", "young", "hands 2000000000000 -2000000000000", "names", "tickets", "said",
        ])

    def test_a_flip(self):
        keeper = keeper_behind(["make 0 2", "young"], 1, 20, 8)
        self.assert_image(keeper, ["image 1 20 8 1", "old", "young 18 -1 -1", "hands 57", "names", "tickets", "said"])
        keeper.tidy()
        self.assert_image(keeper, ["image 1 20 8 0", "old 20 -1 -1", "young", "hands 1", "names", "tickets", "said"])
        keeper.tidy()
        self.assert_image(keeper, ["image 1 20 8 1", "old 20 -1 -1", "young", "hands 1", "names", "tickets", "said"])

    def test_a_whole_collection(self):
        keeper = keeper_behind(["make 0 8", "make 0 1", "make 1 2", "all"], 2, 40, 8)
        self.assert_image(keeper, [
            "image 2 40 8 0", "old 12 -1 20 -1 -1", "young", "hands 1 5", "names", "tickets", "said",
        ])

    def test_names(self):
        keeper = keeper_behind(["make 0 0", "name 0", "make 1 1", "name 1", "drop 0", "young", "name 1"], 2, 40, 8)
        self.assert_image(keeper, [
            "image 2 40 8 1", "old", "young 10 -1", "hands -1 97", "names -1 48 48", "tickets", "said",
        ])

    def test_last_words(self):
        keeper = keeper_behind([
            "make 0 0", "last 0 5", "make 1 0", "last 1 -3", f"last 0 {MOST_NUMBER}", "last 1 0", "drop 0", "young", "last 1 4",
        ], 2, 40, 8)
        self.assert_image(keeper, [
            "image 2 40 8 1", "old", "young 2", "hands -1 97", "names", "tickets 1 48 -3 3 48 0 4 48 4", "said 5 1000000000000",
        ])

    def test_words_beyond_the_tops_are_not_written(self):
        keeper = keeper_behind(["make 0 8", "make 1 6", "drop 0", "drop 1", "all"], 2, 40, 8)
        self.assert_image(keeper, ["image 2 40 8 0", "old", "young", "hands -1 -1", "names", "tickets", "said"])

    def test_all_at_once(self):
        self.assert_image(keeper_behind(LINES, 3, 40, 8), IMAGE)


class ReadTest(ImageTest):

    def test_it_stands_as_it_was_written(self):
        written, read = keeper_behind(LINES, 3, 40, 8), keeper_of(IMAGE)
        one, other = World.of(written.heap), World.of(read.heap)
        self.assertEqual(one.tops(), other.tops())
        self.assertEqual(one.tables(), other.tables())
        self.assertEqual(read.heap.roots.book.places(), [4])
        for space in ["old", "young"]:
            self.assertEqual(one.cells(getattr(one.areas, space)), other.cells(getattr(other.areas, space)))

    def test_the_rows_may_be_changed_behind(self):
        rows = list(IMAGE)
        keeper = keeper_of(rows)
        rows[1] = "old"
        rows.clear()
        self.assertEqual(image_of(keeper), IMAGE)

    def test_keepers_of_one_image_share_nothing(self):
        one, other = keeper_of(IMAGE), keeper_of(IMAGE)
        one.tidy_all()
        one.keep(0, 5)
        self.assertEqual(image_of(other), IMAGE)

    def test_next_numbers(self):
        keeper = keeper_of(IMAGE)
        self.assertEqual(keeper.name_cell(0), 3)
        keeper.give_last(0, 1)
        self.assertEqual(keeper.heap.roots.lasts.pending(), [(0, 48, 77), (2, 0, 9), (3, 0, 1)])

    def test_names_of_an_image(self):
        keeper = keeper_of(IMAGE)
        self.assertEqual([keeper.find(name, 2) for name in range(3)], [True, True, False])

    def test_said_behind_an_image(self):
        keeper = keeper_of(IMAGE)
        for hand in range(3):
            keeper.drop(hand)
        keeper.tidy_all()
        self.assertEqual(keeper.said(), [-6, 77, 9])

    def test_what_no_deeds_led_to(self):
        # Old cells without a collection, tickets without names: only soundness is looked at.
        for rows in [
            ["image 1 20 8 1", "old 12 -1 4", "young", "hands 1", "names -1 -1 0", "tickets 2 0 5 3 2 6", "said 1 2"],
            ["image 1 20 8 0", "old 4 4", "young 10 3", "hands -1", "names", "tickets", "said"],
            ["image 1 20 8 0", "old", "young", "hands -1", "names -1 -1 -1", "tickets", "said 5 5 5"],
        ]:
            self.assert_there_and_back(rows)

    def test_a_full_keeper(self):
        rest = ["names", "tickets", "said"]
        self.assert_there_and_back(["image 1 4 2 0", "old 12 1", "young 8 -1", "hands 9"] + rest)
        self.assert_there_and_back(["image 1 4 2 1", "old 28 1 -1 0", "young", "hands 1"] + rest)
        self.assert_there_and_back(["image 1 4 4 1", "old", "young 26 17 -1 0", "hands 17"] + rest)

    def test_goes_on_as_the_one_that_was_written(self):
        for seed in range(40):
            rng = random.Random(seed)
            hands, old, young = rng.randint(1, 6), rng.randint(4, 60), rng.randint(2, 30)
            one, other = Keeper(hands, old, young), Keeper(hands, old, young)
            for many, line in enumerate(some_lines(rng, hands)):
                answer = answer_to(one, line)
                self.assertEqual(answer_to(other, line), answer)
                self.assertEqual(one.used(), other.used())
                self.assertEqual(image_of(one), image_of(other))
                if many % 10 == 9:
                    other = self.assert_there_and_back(image_of(one))


class NoImageTest(ImageTest):

    def assert_no_image(self, lines):
        self.assert_refused(NoImage, keeper_of, lines)

    def assert_no_row(self, at, *rows):
        """The image is one no more, where just this row is another."""
        for row in rows:
            with self.subTest(row):
                lines = list(IMAGE)
                lines[at] = row
                self.assert_no_image(lines)
                self.assertEqual(lines[:at] + lines[at + 1:], IMAGE[:at] + IMAGE[at + 1:])

    def test_no_list(self):
        for thing in NOT_WHOLE + [0, 7, tuple(IMAGE), "\n".join(IMAGE), {row: 0 for row in IMAGE}, dict(enumerate(IMAGE))]:
            self.assert_no_image(thing)

    def test_rows_too_few_or_too_many(self):
        for at in range(7):
            self.assert_no_image(IMAGE[:at])
            self.assert_no_image(IMAGE[:at] + IMAGE[at + 1:])
            self.assert_no_image(IMAGE[:at] + [""] + IMAGE[at:])
            self.assert_no_image(IMAGE[:at] + [IMAGE[at]] + IMAGE[at:])
        self.assert_no_image(IMAGE + ["said"])

    def test_another_order(self):
        for at in range(6):
            lines = list(IMAGE)
            lines[at], lines[at + 1] = lines[at + 1], lines[at]
            self.assert_no_image(lines)
        self.assert_no_image(IMAGE[::-1])
        # Also where both rows are alike but for their words.
        new = image_of(Keeper(1, 4, 2))
        self.assert_no_image([new[0], new[2], new[1]] + new[3:])

    def test_rows_that_are_no_texts(self):
        for at in range(7):
            for thing in [thing for thing in NOT_WHOLE if not isinstance(thing, str)]:
                self.assert_no_image(IMAGE[:at] + [thing] + IMAGE[at + 1:])
            for thing in [0, IMAGE[at].encode(), IMAGE[at].split(" "), tuple(IMAGE[at].split(" "))]:
                self.assert_no_image(IMAGE[:at] + [thing] + IMAGE[at + 1:])

    def test_another_word(self):
        for at, word in enumerate(ROWS):
            numbers = IMAGE[at][len(word):]
            self.assert_no_row(at, *[other + numbers for other in [
                "", "x", word + "s", word[:-1], word.upper(), word.title(), "\ufeff" + word, word + ":",
            ]])

    def test_blanks_and_other_signs(self):
        for at, row in enumerate(IMAGE):
            self.assert_no_row(at, " " + row, row + " ", row.replace(" ", "  ", 1), row.replace(" ", "\t"), row + "\n",
                               "\n" + row, row + "\r", row.replace(" ", "\u00a0", 1), row.replace(" ", ",", 1), row + "\x00")
            for text in ["x", "+1", "-0", "1.0", "1e1", "1_0", "--1", "-", "\u0661", "\uff11", "None", "0x1", "", "1\n"]:
                self.assert_no_row(at, row + " " + text, row.rpartition(" ")[0] + " " + text)

    def test_noughts_ahead(self):
        for at, row in enumerate(IMAGE):
            parts = row.split(" ")
            for number in range(1, len(parts)):
                text = parts[number]
                longer = "-0" + text[1:] if text.startswith("-") else "0" + text
                self.assert_no_row(at, " ".join(parts[:number] + [longer] + parts[number + 1:]))

    def test_numbers_of_sixty_one_figures(self):
        for at, row in enumerate(IMAGE):
            for text in ["9" * 60, "9" * 61, "-" + "9" * 61, "1" + "0" * 60, "9" * 5000]:
                self.assert_no_row(at, row + " " + text, row.rpartition(" ")[0] + " " + text)

    def test_counts(self):
        self.assert_no_row(0, "image", "image 3", "image 3 40", "image 3 40 8", "image 3 40 8 1 0", "image 3 40 8 1 1")
        self.assert_no_row(0, "image 3 40 8 2", "image 3 40 8 -1", "image 3 40 8 10")
        # The other half is young: so all young places are strays.
        self.assert_no_row(0, "image 3 40 8 0")
        self.assert_no_row(0, "image 2 40 8 1", "image 4 40 8 1", "image 0 40 8 1", "image -3 40 8 1", "image 7 40 8 1")
        self.assert_no_row(0, "image 3 3 8 1", "image 3 2001 8 1", "image 3 -40 8 1", "image 3 40 1 1", "image 3 40 501 1")
        self.assert_no_row(0, "image 3 39 8 1", "image 3 40 7 1", "image 3 40 9 1")

    def test_counts_of_a_new_keeper(self):
        rest = ["old", "young", "hands", "names", "tickets", "said"]
        for hands in [0, 7, -1]:
            rows = [f"image {hands} 40 8 0"] + rest
            rows[3] = "hands" + " -1" * hands
            self.assert_no_image(rows)
        for old, young in [(3, 8), (2001, 8), (0, 8), (-40, 8), (40, 1), (40, 501), (40, 0), (40, -8)]:
            rows = [f"image 1 {old} {young} 0"] + rest
            rows[3] = "hands -1"
            self.assert_no_image(rows)
        for old, young in [(4, 8), (2000, 8), (40, 2), (40, 500)]:
            rows = [f"image 1 {old} {young} 0"] + rest
            rows[3] = "hands -1"
            self.assert_there_and_back(rows)

    def test_words(self):
        no_words = [-3, -5, 20001, 2 * MOST_NUMBER + 1, 2 * MOST_NUMBER + 2, -2 * MOST_NUMBER - 2, 1 - 2 * MOST_NUMBER]
        self.assert_no_row(1, *[f"old 68 {word} -1 -1 97 -1 -1 -1 -1" for word in no_words])
        self.assert_no_row(2, *[f"young 10 {word} 16 1 -1" for word in no_words])
        self.assert_no_row(3, *[f"hands 1 97 {word}" for word in no_words])

    def test_tops(self):
        self.assert_no_row(1, "old", "old 68", IMAGE[1] + " 2", IMAGE[1] + " -1")
        self.assert_no_row(1, IMAGE[1] + " 4" * 32, IMAGE[1] + " 4" * 31, IMAGE[1] + " 4" * 100)
        self.assert_no_row(2, "young", "young 10", "young 10 -1", IMAGE[2] + " -1")
        self.assert_no_row(2, IMAGE[2] + " 0" * 4, IMAGE[2] + " 0" * 100)
        # The rest of the half, and of old, can be full.
        for at, row in [(1, IMAGE[1] + " 4" * 26), (2, IMAGE[2] + " 0" * 3)]:
            self.assert_there_and_back(IMAGE[:at] + [row] + IMAGE[at + 1:])

    def test_words_too_many_do_not_fall_into_another_space(self):
        rest = ["young", "hands -1", "names", "tickets", "said"]
        self.assert_there_and_back(["image 1 4 4 0", "old 4 4 4 4"] + rest)
        self.assert_no_image(["image 1 4 4 0", "old 4 4 4 4 0"] + rest)

    def test_hands(self):
        self.assert_no_row(3, "hands", "hands 1", "hands 1 97", "hands 1 97 101 -1")

    def test_names(self):
        self.assert_no_row(4, *[f"names 0 48 {place}" for place in [-2, 10000, -3, 10 ** 59]])
        self.assert_no_row(4, *[f"names 0 48 {place}" for place in [1, 8, 9, 40, 49, 53, 56, 9999]])

    def test_tickets(self):
        self.assert_no_row(5, "tickets 0", "tickets 0 48", "tickets 0 48 77 2", "tickets 0 48 77 2 0")
        self.assert_no_row(5, *[f"tickets 0 {place} 77 2 0 9" for place in [-1, -2, 1, 9, 40, 49, 53, 9999, 10000]])
        self.assert_no_row(5, *[f"tickets 0 48 {number} 2 0 9" for number in [MOST_NUMBER + 1, -MOST_NUMBER - 1]])

    def test_tickets_that_do_not_rise(self):
        self.assert_no_row(5, "tickets 2 0 9 0 48 77", "tickets 0 48 77 0 0 9", "tickets 2 48 77 2 0 9", "tickets -1 48 77 2 0 9")

    def test_tickets_that_are_not_below_the_count(self):
        self.assert_no_row(5, "tickets 0 48 77 3 0 9", "tickets 3 48 77 4 0 9", "tickets 2 48 77", "tickets 3 48 77")
        for tickets, said in [("tickets 0 0 5", "said"), ("tickets 2 0 5", "said 1 2"), ("tickets 0 0 5 1 0 6", "said")]:
            self.assert_there_and_back(["image 1 4 2 0", "old 4", "young", "hands -1", "names", tickets, said])
        for tickets, said in [("tickets 1 0 5", "said"), ("tickets 3 0 5", "said 1 2"), ("tickets 0 0 5 2 0 6", "said")]:
            self.assert_no_image(["image 1 4 2 0", "old 4", "young", "hands -1", "names", tickets, said])

    def test_said(self):
        self.assert_no_row(6, "said", *[f"said {number}" for number in [MOST_NUMBER + 1, -MOST_NUMBER - 1, 10 ** 59]])
        self.assert_there_and_back(IMAGE[:6] + [f"said {MOST_NUMBER} -{MOST_NUMBER} 0"])

    def test_unsound(self):
        # Walks that don't end at the top, or come upon no head.
        self.assert_no_row(1, "old 66 10 -1 -1 97 -1 -1 -1 -1", "old 60 10 -1 -1 97 -1 -1 -1 -1",
                           "old 6 10 -1 -1 97 -1 -1 -1 -1", "old -1 10 -1 -1 97 -1 -1 -1 -1", "old 1 10 -1 -1 97 -1 -1 -1 -1")
        self.assert_no_row(2, "young 18 -1 16 1 -1", "young 10 -1 24 1 -1", "young 10 -1 64 1 -1", "young 10 -1 -1 1 -1")
        # Strays.
        self.assert_no_row(1, "old 68 10 -1 -1 99 -1 -1 -1 -1", "old 68 3 -1 -1 97 -1 -1 -1 -1")
        self.assert_no_row(2, "young 10 -1 16 3 -1", "young 10 -1 16 1 81")
        self.assert_no_row(3, "hands 3 97 101", "hands 1 99 101", "hands 1 97 81", "hands 1 97 19999")
        # Ages.
        self.assert_no_row(1, "old 64 10 -1 -1 97 -1 -1 -1 -1", "old 66 10 -1 -1 97 -1 -1 -1 -1")
        self.assert_no_row(2, "young 12 -1 16 1 -1", "young 10 -1 20 1 -1")

    def test_more_words_than_old_has(self):
        rows = ["image 1 4 8 0", "old 4", "young 0 0 0", "hands -1", "names", "tickets", "said"]
        self.assert_there_and_back(rows)
        self.assert_no_image(rows[:2] + ["young 0 0 0 0"] + rows[3:])
        self.assert_no_image(rows[:1] + ["old 4 4"] + rows[2:])
