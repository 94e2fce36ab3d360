"""[7]: hands."""

from cellkeep.errors import BadCount, BadWord, NoHand
from cellkeep.hands import Hands
from tests.helper import HUGE, MOST_NUMBER, NO_WORDS, NOT_WHOLE, KeepTest

WORDS = [0, 2, -2, 2 * MOST_NUMBER, -2 * MOST_NUMBER, 1, 3, 19999, -1]


class HandsTest(KeepTest):

    def assert_hands_refuse(self, hands, error, call, *args):
        ahead = hands.row()
        self.assert_refused(error, call, *args)
        self.assertEqual(hands.row(), ahead)

    def test_nothing_at_first(self):
        for many in range(1, 7):
            hands = Hands(many)
            self.assertEqual(hands.row(), [-1] * many)
            self.assertEqual([hands.get(hand) for hand in range(many)], [-1] * many)

    def test_no_count(self):
        for many in [0, 7, -1, -6, HUGE, -HUGE] + NOT_WHOLE:
            self.assert_refused(BadCount, Hands, many)

    def test_parameters(self):
        self.assert_parameters(Hands, ["many"])
        self.assert_parameters(Hands(1).get, ["hand"])
        self.assert_parameters(Hands(1).put, ["hand", "word"])
        self.assert_parameters(Hands(1).row, [])

    def test_each_hand_and_each_sort_of_word(self):
        for many in [1, 2, 6]:
            for hand in range(many):
                hands = Hands(many)
                for word in WORDS:
                    self.assertIsNone(hands.put(hand, word))
                    self.assert_whole(hands.get(hand), word)
                    self.assertEqual(hands.row(), [-1] * hand + [word] + [-1] * (many - hand - 1))

    def test_all_hands_at_once(self):
        hands = Hands(6)
        for hand in [3, 0, 5, 1, 4, 2]:
            hands.put(hand, 2 * hand)
        self.assertEqual(hands.row(), [0, 2, 4, 6, 8, 10])
        self.assertEqual([hands.get(hand) for hand in range(6)], [0, 2, 4, 6, 8, 10])

    def test_no_hand(self):
        for many in [1, 3, 6]:
            hands = Hands(many)
            hands.put(0, 7)
            for hand in [-1, -many, many, many + 1, HUGE, -HUGE] + NOT_WHOLE:
                self.assert_hands_refuse(hands, NoHand, hands.get, hand)
                for word in [4, 5, -1]:
                    self.assert_hands_refuse(hands, NoHand, hands.put, hand, word)

    def test_no_word(self):
        hands = Hands(3)
        hands.put(1, 7)
        for word in NO_WORDS:
            for hand in range(3):
                self.assert_hands_refuse(hands, BadWord, hands.put, hand, word)

    def test_no_hand_ahead_of_no_word(self):
        hands = Hands(3)
        for hand in [-1, 3, None, True, "0"]:
            for word in NO_WORDS:
                self.assert_hands_refuse(hands, NoHand, hands.put, hand, word)

    def test_the_row_is_new_and_stays(self):
        hands = Hands(2)
        told = hands.row()
        self.assertIsInstance(told, list)
        told[0] = 8
        told.append(9)
        self.assertEqual(hands.row(), [-1, -1])
        told = hands.row()
        hands.put(1, 4)
        self.assertEqual(told, [-1, -1])
        self.assertEqual(hands.row(), [-1, 4])

    def test_two_have_nothing_in_common(self):
        one, other = Hands(2), Hands(2)
        one.put(0, 6)
        other.put(1, 8)
        self.assertEqual((one.row(), other.row()), ([6, -1], [-1, 8]))
