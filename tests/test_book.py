"""[7]: a book."""

from cellkeep.book import Book
from cellkeep.errors import NoPlace
from tests.helper import HUGE, NOT_WHOLE, KeepTest

NO_PLACES = [-1, 10000, -2, 10001, HUGE, -HUGE] + NOT_WHOLE


def book_of(places):
    book = Book()
    for place in places:
        book.write(place)
    return book


class BookTest(KeepTest):

    def test_empty_at_first(self):
        self.assertEqual(Book().places(), [])
        for place in [0, 1, 5, 9999]:
            self.assertIs(Book().has(place), False)

    def test_parameters(self):
        self.assert_parameters(Book, [])
        for call in [Book().write, Book().rub, Book().has]:
            self.assert_parameters(call, ["place"])
        for call in [Book().places, Book().clear]:
            self.assert_parameters(call, [])

    def test_written_once_and_twice(self):
        book = Book()
        for many in range(2):
            self.assertIsNone(book.write(7))
            self.assertEqual(book.places(), [7])
            self.assertIs(book.has(7), True)
        self.assertEqual([book.has(6), book.has(8)], [False, False])

    def test_first_and_last_place(self):
        book = book_of([9999, 0])
        self.assertEqual(book.places(), [0, 9999])
        self.assertEqual([book.has(place) for place in [0, 1, 9998, 9999]], [True, False, False, True])
        book.rub(0)
        self.assertEqual(book.places(), [9999])
        book.rub(9999)
        self.assertEqual(book.places(), [])

    def test_rising(self):
        self.assertEqual(book_of([40, 3, 1000, 7, 3, 200, 0, 39]).places(), [0, 3, 7, 39, 40, 200, 1000])
        self.assertEqual(book_of(range(60, 0, -1)).places(), list(range(1, 61)))
        self.assert_whole(book_of([4]).places()[0], 4)

    def test_rubbed_out_where_it_stands(self):
        book = book_of([3, 1, 2])
        self.assertIsNone(book.rub(2))
        self.assertEqual(book.places(), [1, 3])
        self.assertIs(book.has(2), False)
        # Written twice, it is gone by one rub none the less.
        book.write(3)
        book.rub(3)
        self.assertEqual(book.places(), [1])
        book.write(2)
        self.assertEqual(book.places(), [1, 2])

    def test_rubbed_out_where_it_does_not_stand(self):
        book = book_of([3, 1])
        self.assertIsNone(book.rub(2))
        self.assertEqual(book.places(), [1, 3])
        book.rub(3)
        self.assertIsNone(book.rub(3))
        self.assertEqual(book.places(), [1])
        self.assertIsNone(Book().rub(0))

    def test_no_place(self):
        for places in [[], [0, 1, 9999]]:
            book = book_of(places)
            for place in NO_PLACES:
                for call in [book.write, book.rub, book.has]:
                    self.assert_refused(NoPlace, call, place)
                    self.assertEqual(book.places(), places)

    def test_clear(self):
        book = book_of([3, 1])
        self.assertIsNone(book.clear())
        self.assertEqual(book.places(), [])
        self.assertIs(book.has(3), False)
        self.assertIsNone(book.clear())
        book.write(2)
        self.assertEqual(book.places(), [2])

    def test_each_list_is_new_and_stays(self):
        book = book_of([3, 1])
        told = book.places()
        told.append(5)
        self.assertEqual(book.places(), [1, 3])
        told = book.places()
        book.write(2)
        book.rub(1)
        self.assertEqual(told, [1, 3])
        book.clear()
        self.assertEqual(told, [1, 3])

    def test_two_books_have_nothing_in_common(self):
        one, other = Book(), Book()
        one.write(3)
        other.write(4)
        self.assertEqual((one.places(), other.places()), ([3], [4]))
        one.clear()
        self.assertEqual(other.places(), [4])
