"""[7]: weak names."""

from cellkeep.errors import NoName, NoPlace
from cellkeep.weak import Weak
from tests.helper import HUGE, NOT_WHOLE, KeepTest

NO_PLACES = [-1, 10000, -2, 10001, HUGE, -HUGE] + NOT_WHOLE


def weak_of(places):
    weak = Weak()
    for place in places:
        weak.name(place)
    return weak


class WeakTest(KeepTest):

    def assert_weak_refuses(self, weak, error, call, *args):
        ahead = weak.names()
        self.assert_refused(error, call, *args)
        self.assertEqual(weak.names(), ahead)

    def test_none_at_first(self):
        self.assertEqual(Weak().names(), [])
        self.assert_refused(NoName, Weak().at, 0)

    def test_parameters(self):
        weak = Weak()
        self.assert_parameters(Weak, [])
        self.assert_parameters(weak.name, ["at"])
        self.assert_parameters(weak.at, ["name"])
        self.assert_parameters(weak.move, ["name", "at"])
        self.assert_parameters(weak.gone, ["name"])
        self.assert_parameters(weak.names, [])

    def test_names_from_nought_on(self):
        weak = Weak()
        for name, place in enumerate([5, 0, 9999, 5, 5, 7]):
            self.assert_whole(weak.name(place), name)
            self.assert_whole(weak.at(name), place)
        self.assertEqual(weak.names(), [(0, 5), (1, 0), (2, 9999), (3, 5), (4, 5), (5, 7)])

    def test_no_place_to_name(self):
        weak = weak_of([3])
        for place in NO_PLACES:
            self.assert_weak_refuses(weak, NoPlace, weak.name, place)
        # A refusal uses up no number.
        self.assertEqual(weak.name(4), 1)

    def test_no_name(self):
        for places in [[], [3], [3, 4, 5]]:
            weak = weak_of(places)
            for name in [-1, -3, len(places), len(places) + 1, HUGE, -HUGE] + NOT_WHOLE:
                self.assert_weak_refuses(weak, NoName, weak.at, name)
                self.assert_weak_refuses(weak, NoName, weak.gone, name)
                self.assert_weak_refuses(weak, NoName, weak.move, name, 7)

    def test_move(self):
        weak = weak_of([3, 4, 5])
        for place in [0, 9999, 4, 4]:
            self.assertIsNone(weak.move(1, place))
            self.assert_whole(weak.at(1), place)
            self.assertEqual(weak.names(), [(0, 3), (1, place), (2, 5)])
        weak.move(0, 6)
        weak.move(2, 1)
        self.assertEqual(weak.names(), [(0, 6), (1, 4), (2, 1)])

    def test_no_place_to_move_to(self):
        weak = weak_of([3, 4])
        for place in NO_PLACES:
            self.assert_weak_refuses(weak, NoPlace, weak.move, 0, place)

    def test_no_name_ahead_of_no_place(self):
        weak = weak_of([3, 4])
        weak.gone(0)
        for name in [0, 2, -1, None, True, False]:
            for place in NO_PLACES:
                self.assert_weak_refuses(weak, NoName, weak.move, name, place)

    def test_gone(self):
        weak = weak_of([3, 4, 5])
        self.assertIsNone(weak.gone(1))
        self.assertIsNone(weak.at(1))
        self.assertEqual(weak.names(), [(0, 3), (2, 5)])
        self.assert_weak_refuses(weak, NoName, weak.gone, 1)
        self.assert_weak_refuses(weak, NoName, weak.move, 1, 4)
        self.assertIsNone(weak.at(1))

    def test_gone_at_place_nought(self):
        weak = weak_of([0, 0])
        self.assertEqual(weak.names(), [(0, 0), (1, 0)])
        weak.move(0, 0)
        weak.gone(0)
        self.assertEqual(weak.names(), [(1, 0)])
        self.assertEqual([weak.at(0), weak.at(1)], [None, 0])

    def test_gone_for_ever(self):
        weak = weak_of([3, 4])
        weak.gone(1)
        weak.gone(0)
        self.assertEqual([weak.name(3), weak.name(4)], [2, 3])
        self.assertEqual([weak.at(name) for name in range(4)], [None, None, 3, 4])
        self.assertEqual(weak.names(), [(2, 3), (3, 4)])
        weak.move(2, 8)
        self.assertEqual([weak.at(name) for name in range(4)], [None, None, 8, 4])

    def test_each_list_is_new_and_stays(self):
        weak = weak_of([3, 4])
        told = weak.names()
        self.assertIsInstance(told, list)
        for pair in told:
            self.assertIsInstance(pair, tuple)
        told.append((2, 2))
        self.assertEqual(weak.names(), [(0, 3), (1, 4)])
        told = weak.names()
        weak.move(0, 8)
        weak.gone(1)
        weak.name(9)
        self.assertEqual(told, [(0, 3), (1, 4)])
        self.assertEqual(weak.names(), [(0, 8), (2, 9)])

    def test_two_have_nothing_in_common(self):
        one, other = Weak(), Weak()
        one.name(3)
        one.name(4)
        self.assertEqual(other.name(5), 0)
        one.gone(0)
        self.assertEqual((one.names(), other.names()), ([(1, 4)], [(0, 5)]))
