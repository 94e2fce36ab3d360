"""[7]: roots, which have hands, a book, weak names and last words."""

from cellkeep.book import Book
from cellkeep.errors import BadCount
from cellkeep.hands import Hands
from cellkeep.lasts import Lasts
from cellkeep.roots import Roots
from cellkeep.weak import Weak
from cellkeep.words import number_word, place_word
from tests.helper import HUGE, NOT_WHOLE, KeepTest


def roots_of(words):
    roots = Roots(len(words))
    for hand, word in enumerate(words):
        roots.hands.put(hand, word)
    return roots


class RootsTest(KeepTest):

    def test_fields(self):
        for many in range(1, 7):
            roots = Roots(many)
            self.assertIsInstance(roots.hands, Hands)
            self.assertIsInstance(roots.book, Book)
            self.assertIsInstance(roots.weaks, Weak)
            self.assertIsInstance(roots.lasts, Lasts)
            self.assertEqual(roots.hands.row(), [-1] * many)
            self.assertEqual((roots.book.places(), roots.weaks.names()), ([], []))
            self.assertEqual((roots.lasts.pending(), roots.lasts.said()), ([], []))

    def test_no_count(self):
        for many in [0, 7, -1, HUGE, -HUGE] + NOT_WHOLE:
            self.assert_refused(BadCount, Roots, many)

    def test_parameters(self):
        self.assert_parameters(Roots, ["many"])
        self.assert_parameters(Roots(1).starts, [])

    def test_starts_of_none(self):
        self.assertEqual(Roots(1).starts(), [])
        self.assertEqual(Roots(6).starts(), [])

    def test_starts_by_hands(self):
        self.assertEqual(roots_of([place_word(at) for at in [9, 0, 9999, 3]]).starts(), [9, 0, 9999, 3])
        self.assert_whole(roots_of([place_word(4)]).starts()[0], 4)

    def test_as_often_as_it_is_held(self):
        self.assertEqual(roots_of([place_word(at) for at in [5, 2, 5, 5, 2, 0]]).starts(), [5, 2, 5, 5, 2, 0])

    def test_numbers_and_nothing_are_left_out(self):
        words = [number_word(7), place_word(7), -1, number_word(0), place_word(0), number_word(-3)]
        self.assertEqual(roots_of(words).starts(), [7, 0])
        self.assertEqual(roots_of([number_word(1), -1]).starts(), [])

    def test_only_hands_start(self):
        roots = roots_of([place_word(5)])
        roots.book.write(6)
        roots.weaks.name(7)
        roots.lasts.give(8, 80)
        self.assertEqual(roots.starts(), [5])

    def test_each_list_is_new_and_stays(self):
        roots = roots_of([place_word(5), place_word(6)])
        told = roots.starts()
        self.assertIsInstance(told, list)
        told.append(9)
        self.assertEqual(roots.starts(), [5, 6])
        told = roots.starts()
        roots.hands.put(0, -1)
        self.assertEqual(told, [5, 6])
        self.assertEqual(roots.starts(), [6])

    def test_nothing_is_changed(self):
        roots = roots_of([place_word(5), number_word(6)])
        roots.starts()
        self.assertEqual(roots.hands.row(), [place_word(5), number_word(6)])

    def test_two_have_nothing_in_common(self):
        one, other = Roots(2), Roots(2)
        one.hands.put(0, 5)
        one.book.write(3)
        one.weaks.name(4)
        one.lasts.give(4, 40)
        self.assertEqual((other.starts(), other.book.places(), other.weaks.names()), ([], [], []))
        self.assertEqual(other.lasts.pending(), [])
