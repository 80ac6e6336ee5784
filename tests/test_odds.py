"""Call 1: the best play, in small suits worked out by hand."""

import unittest

from tests.helper import ODDS, last, last_of, lead, second, suit, third


def odds(**told):
    return last_of(suit(**told), ODDS)


class ByHand(unittest.TestCase):
    def test_no_suit(self):
        self.assertEqual(last_of(ODDS), [-2])

    def test_need_0_is_all_ways(self):
        self.assertEqual(odds(need=0), [0, 10400600, 10400600])
        self.assertEqual(odds(need=0, p=0, q=0), [0, 1, 1])
        self.assertEqual(odds(need=0, hand0=[1], missing=[13, 12], p=3, q=3), [0, 20, 20])

    def test_no_cards_no_tricks(self):
        self.assertEqual(odds(need=1, p=1, q=1), [0, 0, 2])
        self.assertEqual(odds(need=1, missing=[2], p=1, q=1), [0, 0, 2])

    def test_one_trick_for_two_cards_that_fall_together(self):
        self.assertEqual(odds(need=1, hand0=[13], hand1=[12], p=1, q=1), [0, 2, 2])
        self.assertEqual(odds(need=2, hand0=[13], hand1=[12], p=1, q=1), [0, 0, 2])

    def test_the_longer_hand_goes_on_alone(self):
        rows = {"hand0": [13, 12, 11, 10], "hand1": [1], "missing": [2, 3], "p": 2, "q": 2}
        self.assertEqual(odds(need=4, **rows), [0, 6, 6])

    def test_not_more_tricks_than_cards(self):
        self.assertEqual(odds(need=4, hand0=[13, 12, 11], hand1=[1, 2], p=1, q=1), [0, 0, 2])

    def test_ace_and_queen(self):
        rows = {"hand0": [13, 11], "hand1": [2, 1], "missing": [12, 5]}
        self.assertEqual(odds(need=1, **rows), [0, 10400600, 10400600])
        self.assertEqual(odds(need=2, **rows), [0, 5408312, 10400600])

    def test_the_third_card_is_chosen_by_the_second(self):
        # The ace on east's bare king (1 way), the queen on the five (12 ways); west's bare king (1 way) is lost.
        rows = {"hand0": [13, 11], "hand1": [2], "missing": [12, 5], "p": 1, "q": 13}
        self.assertEqual(last_of(suit(need=2, **rows), lead(1, 2), ODDS), [0, 13, 14])

    def test_the_split_is_not_seen(self):
        # However the two cards lie, some play is right; but none is right for all.
        rows = {"need": 2, "hand0": [13, 11], "hand1": [2, 1], "missing": [12, 5]}
        self.assertEqual(odds(p=2, q=0, **rows), [0, 1, 1])
        self.assertEqual(odds(p=1, q=1, **rows), [0, 2, 2])
        self.assertEqual(odds(p=0, q=2, **rows), [0, 1, 1])
        self.assertEqual(odds(p=2, q=2, **rows), [0, 4, 6])

    def test_the_last_one_plays_the_lowest_card_that_wins(self):
        rows = {"hand0": [12, 4], "missing": [13, 11], "p": 0, "q": 13}
        self.assertEqual(odds(need=1, **rows), [0, 0, 1])

    def test_the_last_one_who_can_not_win_plays_the_lowest_card(self):
        rows = {"hand0": [12, 4], "missing": [11, 3], "p": 0, "q": 13}
        self.assertEqual(odds(need=1, **rows), [0, 1, 1])
        self.assertEqual(odds(need=2, **rows), [0, 0, 1])

    def test_the_last_one_leaves_the_trick_to_the_partner(self):
        self.assertEqual(odds(need=1, hand0=[5, 4], missing=[13, 11, 2], p=1, q=2), [0, 0, 3])

    def test_the_last_one_beats_both_our_cards(self):
        rows = {"hand0": [3, 9], "hand1": [8, 1], "missing": [6, 10], "p": 0, "q": 2}
        self.assertEqual(last_of(suit(need=1, **rows), lead(0, 3), ODDS), [0, 1, 1])
        self.assertEqual(last_of(suit(need=2, **rows), ODDS), [0, 0, 1])

    def test_covering_costs(self):
        rows = {"need": 2, "hand0": [13, 11], "hand1": [2, 1], "missing": [12, 5], "p": 2, "q": 0}
        self.assertEqual(last_of(suit(cover=0, **rows), lead(0, 11), ODDS), [0, 1, 1])
        self.assertEqual(last_of(suit(cover=1, **rows), lead(0, 11), ODDS), [0, 0, 1])

    def test_gone_cards_are_nobodys(self):
        self.assertEqual(odds(need=1, hand0=[1], p=1, q=1), [0, 2, 2])

    def test_a_lead_that_is_made_binds(self):
        rows = {"need": 1, "hand0": [13, 4], "hand1": [2], "missing": [12, 11, 10], "p": 2, "q": 2}
        self.assertEqual(last_of(suit(**rows), lead(0, 13), ODDS), [0, 6, 6])
        rows = {"need": 2, "hand0": [12], "hand1": [13, 2], "missing": [3, 4], "p": 0, "q": 2}
        self.assertEqual(last_of(suit(**rows), lead(0, 12), ODDS), [0, 1, 1])
        self.assertEqual(last_of(suit(**rows), lead(1, 2), ODDS), [0, 1, 1])
        self.assertEqual(last_of(suit(**rows), lead(1, 13), ODDS), [0, 0, 1])

    def test_each_moment_of_a_trick(self):
        rows = {"need": 2, "hand0": [13, 11], "hand1": [2, 1], "missing": [12, 5], "p": 2, "q": 2}
        # West's cards are none (1 way), the five (2), the king (2) or both (1).
        calls = [suit(**rows), lead(1, 2), second(5), third(11), last(0)]
        told = [last_of(*calls[:length], ODDS) for length in range(1, 6)]
        self.assertEqual(told, [[0, 4, 6], [0, 4, 6], [0, 2, 3], [0, 1, 3], [0, 1, 1]])

    def test_need_0_is_all_ways_at_each_moment(self):
        rows = {"need": 0, "hand0": [2], "hand1": [1], "missing": [12, 5], "p": 2, "q": 2}
        calls = [suit(**rows), lead(0, 2), second(5), third(1), last(12)]
        told = [last_of(*calls[:length], ODDS) for length in range(1, 6)]
        self.assertEqual(told, [[0, 6, 6], [0, 6, 6], [0, 3, 3], [0, 3, 3], [0, 2, 2]])

    def test_the_third_card_binds(self):
        rows = {"need": 2, "hand0": [13, 12], "hand1": [3, 2], "missing": [5, 4], "p": 1, "q": 1}
        self.assertEqual(last_of(suit(**rows), lead(0, 12), second(5), ODDS), [0, 1, 1])
        rows = {"need": 2, "hand0": [12, 2], "hand1": [13, 3], "missing": [5, 4], "p": 1, "q": 1}
        self.assertEqual(last_of(suit(**rows), lead(0, 12), second(5), ODDS), [0, 1, 1])
        self.assertEqual(last_of(suit(**rows), lead(0, 12), second(5), third(13), ODDS), [0, 1, 1])
        rows = {"need": 2, "hand0": [12, 2], "hand1": [13, 3], "missing": [5, 4], "p": 2, "q": 0}
        self.assertEqual(last_of(suit(**rows), lead(0, 12), second(4), ODDS), [0, 1, 1])
        self.assertEqual(last_of(suit(**rows), lead(0, 12), second(4), third(13), ODDS), [0, 0, 1])
        self.assertEqual(last_of(suit(**rows), lead(0, 12), second(4), third(3), ODDS), [0, 1, 1])


if __name__ == "__main__":
    unittest.main()
