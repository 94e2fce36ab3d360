"""[2]: the words of numbers and places, and the one that tells nothing."""

from cellkeep.errors import BadNumber, BadWord, NoPlace
from cellkeep.words import NOTHING, kind, number_word, place_word, worth
from tests.helper import HUGE, NOT_WHOLE, KeepTest

MOST = 10 ** 12


class NumberWordTest(KeepTest):

    def test_twice_the_number(self):
        for n in [0, 1, -1, 2, -2, 7, -7, 9999, 10000, 123456789, -987654321]:
            with self.subTest(n):
                self.assert_whole(number_word(n), n + n)

    def test_bounds(self):
        self.assert_whole(number_word(MOST), 2000000000000)
        self.assert_whole(number_word(-MOST), -2000000000000)

    def test_beyond_the_bounds(self):
        for n in [MOST + 1, -MOST - 1, 2 * MOST, -2 * MOST, HUGE, -HUGE]:
            self.assert_refused(BadNumber, number_word, n)

    def test_no_whole_number(self):
        for thing in NOT_WHOLE:
            with self.subTest(repr(thing)):
                self.assert_refused(BadNumber, number_word, thing)

    def test_parameters(self):
        self.assert_parameters(number_word, ["n"])


class PlaceWordTest(KeepTest):

    def test_twice_the_place_and_one_more(self):
        for at in range(10000):
            self.assertEqual(place_word(at), at + at + 1)

    def test_bounds(self):
        self.assert_whole(place_word(0), 1)
        self.assert_whole(place_word(9999), 19999)

    def test_beyond_the_bounds(self):
        for at in [-1, 10000, -2, 10001, MOST, -MOST, HUGE, -HUGE]:
            self.assert_refused(NoPlace, place_word, at)

    def test_no_whole_number(self):
        for thing in NOT_WHOLE:
            with self.subTest(repr(thing)):
                self.assert_refused(NoPlace, place_word, thing)

    def test_parameters(self):
        self.assert_parameters(place_word, ["at"])


class KindAndWorthTest(KeepTest):

    def test_nothing(self):
        self.assert_whole(NOTHING, -1)
        self.assertEqual(kind(-1), "nothing")
        self.assertIsNone(worth(-1))

    def test_numbers(self):
        for n in [0, 1, -1, 2, -2, 3, -3, 9999, 10000, -10000, MOST - 1, MOST, 1 - MOST, -MOST]:
            with self.subTest(n):
                self.assertEqual(kind(2 * n), "number")
                self.assert_whole(worth(2 * n), n)

    def test_places(self):
        for at in range(10000):
            self.assertEqual(kind(2 * at + 1), "place")
            self.assertEqual(worth(2 * at + 1), at)
        self.assert_whole(worth(1), 0)
        self.assert_whole(worth(3), 1)

    def test_small_words_by_hand(self):
        told = [(word, kind(word), worth(word)) for word in [-4, -2, -1, 0, 1, 2, 3, 4, 5]]
        self.assertEqual(told, [
            (-4, "number", -2), (-2, "number", -1), (-1, "nothing", None), (0, "number", 0),
            (1, "place", 0), (2, "number", 1), (3, "place", 1), (4, "number", 2), (5, "place", 2),
        ])

    def test_whole_numbers_that_are_no_words(self):
        odd_below = [-3, -5, -7, -19999, -20001, 1 - 2 * MOST, -2 * MOST - 1]
        odd_above = [20001, 20003, 2 * MOST - 1, 2 * MOST + 1]
        even_beyond = [2 * MOST + 2, -2 * MOST - 2, 4 * MOST, -4 * MOST]
        for word in odd_below + odd_above + even_beyond + [HUGE, -HUGE, HUGE + 1, -HUGE - 1]:
            self.assert_refused(BadWord, kind, word)
            self.assert_refused(BadWord, worth, word)

    def test_no_whole_number(self):
        for thing in NOT_WHOLE:
            with self.subTest(repr(thing)):
                self.assert_refused(BadWord, kind, thing)
                self.assert_refused(BadWord, worth, thing)

    def test_parameters(self):
        self.assert_parameters(kind, ["word"])
        self.assert_parameters(worth, ["word"])
