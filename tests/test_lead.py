"""Calls 4, 5 and 6: the odds of each lead, leading, and what may come behind it."""

import unittest

from tests.helper import HANDS, HUGE, LEADS, ODDS, SECONDS, WAYS, ask, last_of, lead, suit

# Ace and queen opposite two small ones, the king and another card missing.
FINESSE = {"need": 2, "hand0": [13, 11], "hand1": [2, 1], "missing": [12, 5]}
TOGETHER = 2496144
APART = 2704156
ALL = 10400600


class Leads(unittest.TestCase):
    def test_no_suit_and_not_its_turn(self):
        self.assertEqual(last_of(LEADS), [-2])
        self.assertEqual(last_of(suit(**FINESSE), lead(0, 13), LEADS), [-2])

    def test_no_cards_no_leads(self):
        self.assertEqual(last_of(suit(need=0), LEADS), [0])
        self.assertEqual(last_of(suit(need=1, missing=[4]), LEADS), [0])

    def test_hand_by_hand_falling(self):
        told = last_of(suit(hand0=[3, 11], hand1=[2, 13, 6], p=1, q=1), LEADS)
        self.assertEqual(told, [0, 0, 11, 2, 0, 3, 2, 1, 13, 2, 1, 6, 2, 1, 2, 2])

    def test_a_finesse(self):
        # The ace drops a bare king. The queen runs through a west who doesn't cover. A small card brings out
        # east's bare king, and behind east's small card the ace is better than the queen.
        told = last_of(suit(**FINESSE), LEADS)
        self.assertEqual(told, [0, 0, 13, 2 * APART, 0, 11, TOGETHER, 1, 2, 2 * APART, 1, 1, 2 * APART])

    def test_a_queen_that_is_covered(self):
        told = last_of(suit(cover=1, **FINESSE), LEADS)
        self.assertEqual(told, [0, 0, 13, 2 * APART, 0, 11, 0, 1, 2, 2 * APART, 1, 1, 2 * APART])

    def test_need_0_is_all_ways(self):
        told = last_of(suit(**{**FINESSE, "need": 0}), LEADS)
        self.assertEqual(told, [0, 0, 13, ALL, 0, 11, ALL, 1, 2, ALL, 1, 1, ALL])

    def test_one_hand_alone(self):
        self.assertEqual(last_of(suit(need=1, hand1=[4, 2], missing=[3], p=1, q=1), LEADS), [0, 1, 4, 2, 1, 2, 2])


class Lead(unittest.TestCase):
    def test_it_is_led(self):
        self.assertEqual(ask(suit(**FINESSE), lead(0, 11), HANDS)[1:], [[0], [0, 2, 2, 2, 13, 11, 2, 2, 1]])
        self.assertEqual(ask(suit(**FINESSE), lead(1, 1))[1], [0])

    def test_out_of_range(self):
        for hand, card in ((-1, 13), (2, 13), (0, 0), (0, 14), (1, -HUGE), (1, HUGE), (HUGE, 1), (-HUGE, 1)):
            with self.subTest(hand=hand, card=card):
                self.assertEqual(last_of(lead(hand, card)), [-1])
                self.assertEqual(last_of(suit(**FINESSE), lead(hand, card)), [-1])
                self.assertEqual(last_of(suit(**FINESSE), lead(0, 13), lead(hand, card)), [-1])

    def test_no_suit_and_not_its_turn(self):
        self.assertEqual(last_of(lead(0, 13)), [-2])
        self.assertEqual(last_of(suit(**FINESSE), lead(0, 13), lead(0, 11)), [-2])
        self.assertEqual(last_of(suit(**FINESSE), lead(0, 13), lead(0, 10)), [-2])

    def test_the_hand_does_not_have_it(self):
        for hand, card in ((0, 2), (1, 13), (0, 12), (1, 7)):
            self.assertEqual(last_of(suit(**FINESSE), lead(hand, card)), [-6])
        self.assertEqual(last_of(suit(missing=[1]), lead(0, 1)), [-6])

    def test_the_ends_of_the_ranges_are_taken(self):
        self.assertEqual(last_of(suit(hand0=[1], hand1=[13]), lead(0, 1)), [0])
        self.assertEqual(last_of(suit(hand0=[1], hand1=[13]), lead(1, 13)), [0])

    def test_need_0_may_go_on(self):
        self.assertEqual(last_of(suit(need=0, hand0=[4]), lead(0, 4)), [0])

    def test_a_refusal_changes_nothing(self):
        looks = (HANDS, WAYS, ODDS, LEADS)
        before = ask(suit(**FINESSE), *looks)[1:]
        for refused in (lead(2, 13), lead(0, 14), lead(0, 12), lead(1, 11), SECONDS):
            self.assertEqual(ask(suit(**FINESSE), refused, *looks)[2:], before)

    def test_a_refusal_leaves_the_lead(self):
        looks = (HANDS, WAYS, ODDS, SECONDS)
        before = ask(suit(**FINESSE), lead(1, 2), *looks)[2:]
        for refused in (lead(2, 13), lead(0, 14), lead(0, 13), lead(0, 12), LEADS):
            self.assertEqual(ask(suit(**FINESSE), lead(1, 2), refused, *looks)[3:], before)


class Seconds(unittest.TestCase):
    def test_no_suit_and_not_its_turn(self):
        self.assertEqual(last_of(SECONDS), [-2])
        self.assertEqual(last_of(suit(**FINESSE), SECONDS), [-2])

    def test_no_missing_cards(self):
        self.assertEqual(last_of(suit(hand0=[4], p=2, q=2), lead(0, 4), SECONDS), [0, 0, 6])

    def test_west_is_behind_hand_0_and_east_behind_hand_1(self):
        rows = {"hand0": [4], "hand1": [5], "missing": [9, 3]}
        self.assertEqual(last_of(suit(p=2, q=0, **rows), lead(0, 4), SECONDS), [0, 3, 1])
        self.assertEqual(last_of(suit(p=2, q=0, **rows), lead(1, 5), SECONDS), [0, 0, 1])
        self.assertEqual(last_of(suit(p=0, q=2, **rows), lead(0, 4), SECONDS), [0, 0, 1])
        self.assertEqual(last_of(suit(p=0, q=2, **rows), lead(1, 5), SECONDS), [0, 3, 1])

    def test_the_lowest_card_falling(self):
        told = last_of(suit(**FINESSE), lead(1, 2), SECONDS)
        self.assertEqual(told, [0, 12, APART, 5, APART + TOGETHER, 0, TOGETHER])

    def test_they_cover(self):
        told = last_of(suit(cover=1, **FINESSE), lead(0, 11), SECONDS)
        self.assertEqual(told, [0, 12, TOGETHER + APART, 5, APART, 0, TOGETHER])

    def test_they_do_not_cover(self):
        told = last_of(suit(cover=0, **FINESSE), lead(0, 11), SECONDS)
        self.assertEqual(told, [0, 12, APART, 5, TOGETHER + APART, 0, TOGETHER])

    def test_they_cover_from_the_jack_on_with_the_lowest_above(self):
        rows = {"hand0": [9, 10, 11, 12], "missing": [13, 1, 8], "p": 3, "q": 0}
        for card, second in ((9, 1), (10, 13), (11, 13), (12, 13)):
            self.assertEqual(last_of(suit(cover=1, **rows), lead(0, card), SECONDS), [0, second, 1])
        rows = {"hand0": [9, 10], "missing": [12, 13, 11, 2], "p": 4, "q": 0}
        self.assertEqual(last_of(suit(cover=1, **rows), lead(0, 10), SECONDS), [0, 11, 1])
        self.assertEqual(last_of(suit(cover=1, **rows), lead(0, 9), SECONDS), [0, 2, 1])

    def test_no_card_to_cover_with(self):
        rows = {"hand0": [12], "missing": [11, 10, 3], "p": 3, "q": 0}
        self.assertEqual(last_of(suit(cover=1, **rows), lead(0, 12), SECONDS), [0, 3, 1])


if __name__ == "__main__":
    unittest.main()
