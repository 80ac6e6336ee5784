"""Call 1: the best play. Small suits worked out by hand, many others against the sets of all plays."""

import random
import unittest
from math import comb

from tests.helper import LEADS, ODDS, SECONDS, Oracle, ask, last_of, lead, suit


def odds(**told):
    return last_of(suit(**told), ODDS)


class ByHand(unittest.TestCase):
    def test_no_suit(self):
        self.assertEqual(last_of(ODDS), [-2])

    def test_need_0_is_all_ways(self):
        self.assertEqual(odds(need=0), [0, 10400600, 10400600])
        self.assertEqual(odds(need=0, p=0, q=0), [0, 1, 1])
        self.assertEqual(odds(need=0, hand0=[1], missing=[13, 12], p=3, q=3), [0, 20, 20])

    def test_no_cards_no_tricks(self):
        self.assertEqual(odds(need=1, p=1, q=1), [0, 0, 2])
        self.assertEqual(odds(need=1, missing=[2], p=1, q=1), [0, 0, 2])

    def test_one_trick_for_two_cards_that_fall_together(self):
        self.assertEqual(odds(need=1, hand0=[13], hand1=[12], p=1, q=1), [0, 2, 2])
        self.assertEqual(odds(need=2, hand0=[13], hand1=[12], p=1, q=1), [0, 0, 2])

    def test_the_longer_hand_goes_on_alone(self):
        rows = {"hand0": [13, 12, 11, 10], "hand1": [1], "missing": [2, 3], "p": 2, "q": 2}
        self.assertEqual(odds(need=4, **rows), [0, 6, 6])

    def test_not_more_tricks_than_cards(self):
        self.assertEqual(odds(need=4, hand0=[13, 12, 11], hand1=[1, 2], p=1, q=1), [0, 0, 2])

    def test_ace_and_queen(self):
        rows = {"hand0": [13, 11], "hand1": [2, 1], "missing": [12, 5]}
        self.assertEqual(odds(need=1, **rows), [0, 10400600, 10400600])
        self.assertEqual(odds(need=2, **rows), [0, 5408312, 10400600])

    def test_the_third_card_is_chosen_by_the_second(self):
        # The ace on east's bare king (1 way), the queen on the five (12 ways); west's bare king (1 way) is lost.
        rows = {"hand0": [13, 11], "hand1": [2], "missing": [12, 5], "p": 1, "q": 13}
        self.assertEqual(last_of(suit(need=2, **rows), lead(1, 2), ODDS), [0, 13, 14])

    def test_the_split_is_not_seen(self):
        # However the two cards lie, some play is right; but none is right for all.
        rows = {"need": 2, "hand0": [13, 11], "hand1": [2, 1], "missing": [12, 5]}
        self.assertEqual(odds(p=2, q=0, **rows), [0, 1, 1])
        self.assertEqual(odds(p=1, q=1, **rows), [0, 2, 2])
        self.assertEqual(odds(p=0, q=2, **rows), [0, 1, 1])
        self.assertEqual(odds(p=2, q=2, **rows), [0, 4, 6])

    def test_the_last_one_plays_the_lowest_card_that_wins(self):
        rows = {"hand0": [12, 4], "missing": [13, 11], "p": 0, "q": 13}
        self.assertEqual(odds(need=1, **rows), [0, 0, 1])

    def test_the_last_one_who_can_not_win_plays_the_lowest_card(self):
        rows = {"hand0": [12, 4], "missing": [11, 3], "p": 0, "q": 13}
        self.assertEqual(odds(need=1, **rows), [0, 1, 1])
        self.assertEqual(odds(need=2, **rows), [0, 0, 1])

    def test_the_last_one_leaves_the_trick_to_the_partner(self):
        self.assertEqual(odds(need=1, hand0=[5, 4], missing=[13, 11, 2], p=1, q=2), [0, 0, 3])

    def test_the_last_one_beats_both_our_cards(self):
        rows = {"hand0": [3, 9], "hand1": [8, 1], "missing": [6, 10], "p": 0, "q": 2}
        self.assertEqual(last_of(suit(need=1, **rows), lead(0, 3), ODDS), [0, 1, 1])
        self.assertEqual(last_of(suit(need=2, **rows), ODDS), [0, 0, 1])

    def test_covering_costs(self):
        rows = {"need": 2, "hand0": [13, 11], "hand1": [2, 1], "missing": [12, 5], "p": 2, "q": 0}
        self.assertEqual(last_of(suit(cover=0, **rows), lead(0, 11), ODDS), [0, 1, 1])
        self.assertEqual(last_of(suit(cover=1, **rows), lead(0, 11), ODDS), [0, 0, 1])

    def test_gone_cards_are_nobodys(self):
        self.assertEqual(odds(need=1, hand0=[1], p=1, q=1), [0, 2, 2])

    def test_a_lead_that_is_made_binds(self):
        rows = {"need": 1, "hand0": [13, 4], "hand1": [2], "missing": [12, 11, 10], "p": 2, "q": 2}
        self.assertEqual(last_of(suit(**rows), lead(0, 13), ODDS), [0, 6, 6])
        rows = {"need": 2, "hand0": [12], "hand1": [13, 2], "missing": [3, 4], "p": 0, "q": 2}
        self.assertEqual(last_of(suit(**rows), lead(0, 12), ODDS), [0, 1, 1])
        self.assertEqual(last_of(suit(**rows), lead(1, 2), ODDS), [0, 1, 1])
        self.assertEqual(last_of(suit(**rows), lead(1, 13), ODDS), [0, 0, 1])


def some_suit(source, ours, missing):
    """A suit that isn't refused, with so many cards."""
    first = source.randint(max(0, ours - 4), min(4, ours))
    cards = source.sample(range(1, 14), ours + missing)
    p = source.randint(0, 13)
    q = source.randint(max(0, missing - p), 13)
    rows = (cards[:first], cards[first:ours], cards[ours:])
    return (source.randint(0, 4), source.randint(0, 1), p, q) + rows


class AgainstAllPlays(unittest.TestCase):
    def check(self, told):
        oracle = Oracle(*told)
        every = comb(told[2] + told[3], told[2])
        leads = oracle.leads()
        calls = [suit(*told), ODDS, LEADS]
        wanted = [[0, len(oracle.deals), every], [0, oracle.odds(), every], [0] + leads]
        for at in range(0, len(leads), 3):
            calls += [suit(*told), lead(leads[at], leads[at + 1]), ODDS, SECONDS]
            seconds = [0] + oracle.seconds(leads[at], leads[at + 1])
            wanted += [wanted[0], [0], [0, leads[at + 2], every], seconds]
        with self.subTest(suit=told):
            self.assertEqual(ask(*calls), wanted)

    def test_small_suits(self):
        source = random.Random(1)
        for _ in range(200):
            self.check(some_suit(source, source.randint(0, 5), source.randint(0, 3)))

    def test_all_sizes(self):
        source = random.Random(2)
        for _ in range(100):
            self.check(some_suit(source, source.randint(0, 7), source.randint(0, 5)))

    def test_the_largest(self):
        source = random.Random(3)
        for _ in range(12):
            self.check(some_suit(source, 7, 5))


if __name__ == "__main__":
    unittest.main()
