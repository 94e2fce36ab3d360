"""[7]: last words."""

from cellkeep.errors import BadNumber, NoName, NoPlace
from cellkeep.lasts import Lasts
from tests.helper import HUGE, NO_NUMBERS, NOT_WHOLE, KeepTest
from tests.helper import MOST_NUMBER as MOST

NO_PLACES = [-1, 10000, -2, 10001, HUGE, -HUGE] + NOT_WHOLE


def lasts_of(pairs):
    lasts = Lasts()
    for place, number in pairs:
        lasts.give(place, number)
    return lasts


class LastsTest(KeepTest):

    def assert_lasts_refuse(self, lasts, error, call, *args):
        ahead = (lasts.pending(), lasts.said())
        self.assert_refused(error, call, *args)
        self.assertEqual((lasts.pending(), lasts.said()), ahead)

    def test_none_at_first(self):
        self.assertEqual((Lasts().pending(), Lasts().said()), ([], []))

    def test_parameters(self):
        lasts = Lasts()
        self.assert_parameters(Lasts, [])
        self.assert_parameters(lasts.give, ["at", "number"])
        self.assert_parameters(lasts.move, ["ticket", "at"])
        self.assert_parameters(lasts.say, ["ticket"])
        for call in [lasts.pending, lasts.said]:
            self.assert_parameters(call, [])

    def test_tickets_from_nought_on(self):
        lasts = Lasts()
        pairs = [(5, 7), (0, -MOST), (9999, MOST), (5, 0), (5, 7)]
        for ticket, pair in enumerate(pairs):
            self.assert_whole(lasts.give(*pair), ticket)
        self.assertEqual(lasts.pending(), [
            (0, 5, 7), (1, 0, -MOST), (2, 9999, MOST), (3, 5, 0), (4, 5, 7),
        ])
        self.assertEqual(lasts.said(), [])

    def test_no_place_to_give_to(self):
        lasts = lasts_of([(3, 30)])
        for place in NO_PLACES:
            for number in [5] + NO_NUMBERS:
                self.assert_lasts_refuse(lasts, NoPlace, lasts.give, place, number)

    def test_no_number(self):
        lasts = lasts_of([(3, 30)])
        for number in NO_NUMBERS:
            self.assert_lasts_refuse(lasts, BadNumber, lasts.give, 3, number)
        # A refusal uses up no ticket.
        self.assertEqual(lasts.give(3, 1), 1)

    def test_move(self):
        lasts = lasts_of([(3, 30), (4, 40), (5, 50)])
        for place in [0, 9999, 4, 4]:
            self.assertIsNone(lasts.move(1, place))
            self.assertEqual(lasts.pending(), [(0, 3, 30), (1, place, 40), (2, 5, 50)])
        lasts.move(0, 8)
        lasts.move(2, 1)
        self.assertEqual(lasts.pending(), [(0, 8, 30), (1, 4, 40), (2, 1, 50)])
        self.assertEqual(lasts.said(), [])

    def test_no_place_to_move_to(self):
        lasts = lasts_of([(3, 30)])
        for place in NO_PLACES:
            self.assert_lasts_refuse(lasts, NoPlace, lasts.move, 0, place)

    def test_no_ticket(self):
        for pairs in [[], [(3, 30)], [(3, 30), (4, 40)]]:
            lasts = lasts_of(pairs)
            for ticket in [-1, len(pairs), len(pairs) + 1, HUGE, -HUGE] + NOT_WHOLE:
                self.assert_lasts_refuse(lasts, NoName, lasts.say, ticket)
                self.assert_lasts_refuse(lasts, NoName, lasts.move, ticket, 5)

    def test_no_ticket_ahead_of_no_place(self):
        lasts = lasts_of([(3, 30), (4, 40)])
        lasts.say(0)
        for ticket in [0, 2, -1, None, True, False]:
            for place in NO_PLACES:
                self.assert_lasts_refuse(lasts, NoName, lasts.move, ticket, place)

    def test_said_in_the_order_in_which_they_were_said(self):
        lasts = lasts_of([(3, 30), (4, 40), (5, 50), (6, 30)])
        self.assertIsNone(lasts.say(2))
        self.assertEqual((lasts.pending(), lasts.said()), ([(0, 3, 30), (1, 4, 40), (3, 6, 30)], [50]))
        lasts.say(0)
        lasts.say(3)
        self.assertEqual((lasts.pending(), lasts.said()), ([(1, 4, 40)], [50, 30, 30]))
        lasts.say(1)
        self.assertEqual((lasts.pending(), lasts.said()), ([], [50, 30, 30, 40]))

    def test_said_once(self):
        lasts = lasts_of([(3, 30), (4, 40)])
        lasts.say(0)
        self.assert_lasts_refuse(lasts, NoName, lasts.say, 0)
        self.assert_lasts_refuse(lasts, NoName, lasts.move, 0, 3)

    def test_tickets_are_not_told_anew(self):
        lasts = lasts_of([(3, 30), (4, 40)])
        lasts.say(1)
        self.assertEqual(lasts.give(5, 50), 2)
        lasts.say(0)
        lasts.say(2)
        self.assertEqual(lasts.give(6, 60), 3)
        self.assertEqual((lasts.pending(), lasts.said()), ([(3, 6, 60)], [40, 30, 50]))

    def test_rising_behind_moves(self):
        lasts = lasts_of([(place, place) for place in range(9)])
        for ticket in [7, 2, 5]:
            lasts.say(ticket)
        for ticket in [8, 0, 6, 1]:
            lasts.move(ticket, 100)
        self.assertEqual([ticket for ticket, place, number in lasts.pending()], [0, 1, 3, 4, 6, 8])

    def test_each_list_is_new_and_stays(self):
        lasts = lasts_of([(3, 30), (4, 40), (5, 50)])
        lasts.say(1)
        pending, said = lasts.pending(), lasts.said()
        self.assertIsInstance(pending, list)
        self.assertIsInstance(said, list)
        for row in pending:
            self.assertIsInstance(row, tuple)
        pending.append((9, 9, 9))
        said.append(9)
        self.assertEqual((lasts.pending(), lasts.said()), ([(0, 3, 30), (2, 5, 50)], [40]))
        pending, said = lasts.pending(), lasts.said()
        lasts.move(0, 7)
        lasts.say(2)
        lasts.give(1, 1)
        self.assertEqual((pending, said), ([(0, 3, 30), (2, 5, 50)], [40]))
        self.assertEqual((lasts.pending(), lasts.said()), ([(0, 7, 30), (3, 1, 1)], [40, 50]))

    def test_two_have_nothing_in_common(self):
        one, other = Lasts(), Lasts()
        one.give(3, 30)
        one.give(4, 40)
        one.say(0)
        self.assertEqual((other.pending(), other.said()), ([], []))
        self.assertEqual(other.give(5, 50), 0)
        self.assertEqual((one.pending(), one.said()), ([(1, 4, 40)], [30]))
