"""Call 0: ranges, refusals and their order, splits and ways, and that a suit is told anew."""

import unittest
from math import comb

from tests.helper import HANDS, HUGE, LEADS, ODDS, SECONDS, WAYS, ask, last_of, lead, suit

GOOD = {"need": 1, "cover": 0, "p": 5, "q": 6, "hand0": [13, 3], "hand1": [2], "missing": [12, 4]}


def changed(**other):
    return suit(**{**GOOD, **other})


class Counts(unittest.TestCase):
    def test_all_splits_of_five(self):
        self.assertEqual(last_of(suit(missing=[1, 3, 5, 7, 9])), [0, 32, 10400600])

    def test_nothing_at_all(self):
        self.assertEqual(last_of(suit(p=0, q=0)), [0, 1, 1])

    def test_no_missing_card_is_one_split_of_all_ways(self):
        self.assertEqual(last_of(suit(p=2, q=3, hand0=[1])), [0, 1, 10])

    def test_west_with_no_cards(self):
        self.assertEqual(last_of(suit(p=0, q=7, missing=[2, 3, 4])), [0, 1, 1])

    def test_east_with_no_cards(self):
        self.assertEqual(last_of(suit(p=7, q=0, missing=[2, 3, 4])), [0, 1, 1])

    def test_west_has_room_for_one(self):
        self.assertEqual(last_of(suit(p=1, q=13, missing=[2, 3, 4])), [0, 4, 14])

    def test_east_has_room_for_two(self):
        self.assertEqual(last_of(suit(p=13, q=2, missing=[2, 3, 4])), [0, 7, 105])

    def test_just_room_enough(self):
        self.assertEqual(last_of(suit(p=2, q=3, missing=[1, 2, 3, 4, 5])), [0, 10, 10])

    def test_ways_are_the_choices_of_p_out_of_p_and_q(self):
        for p in range(14):
            for q in range(14):
                for m in range(min(5, p + q) + 1):
                    splits = sum(comb(m, k) for k in range(m + 1) if k <= p and m - k <= q)
                    told = last_of(suit(p=p, q=q, missing=range(1, m + 1)))
                    self.assertEqual(told, [0, splits, comb(p + q, p)])


class Ranges(unittest.TestCase):
    def test_the_ends_of_each_range_are_taken(self):
        for name, ends in (("need", (0, 4)), ("cover", (0, 1)), ("p", (0, 13)), ("q", (0, 13))):
            for end in ends:
                with self.subTest(name=name, end=end):
                    self.assertEqual(last_of(changed(**{name: end}))[0], 0)

    def test_just_outside_each_range(self):
        for name, most in (("need", 4), ("cover", 1), ("p", 13), ("q", 13)):
            for number in (-1, most + 1, -HUGE, HUGE):
                with self.subTest(name=name, number=number):
                    self.assertEqual(last_of(changed(**{name: number})), [-1])

    def test_the_ends_of_a_card(self):
        for name in ("hand0", "hand1", "missing"):
            for card in (1, 13):
                with self.subTest(name=name, card=card):
                    rows = {"hand0": [], "hand1": [], "missing": [], name: [card]}
                    self.assertEqual(last_of(suit(**rows))[0], 0)

    def test_a_card_just_outside(self):
        for name in ("hand0", "hand1", "missing"):
            for card in (0, 14, -1, -HUGE, HUGE):
                with self.subTest(name=name, card=card):
                    self.assertEqual(last_of(changed(**{name: [card]})), [-1])
                    self.assertEqual(last_of(changed(**{name: [7, card]})), [-1])

    def test_rows_of_full_length(self):
        self.assertEqual(last_of(suit(hand0=[1, 2, 3, 4]))[0], 0)
        self.assertEqual(last_of(suit(hand1=[1, 2, 3, 4]))[0], 0)
        self.assertEqual(last_of(suit(missing=[1, 2, 3, 4, 5]))[0], 0)

    def test_rows_that_are_too_long(self):
        for row in ([1, 2, 3, 4, 5], list(range(1, 14)), [1] * 100):
            self.assertEqual(last_of(suit(hand0=row)), [-1])
            self.assertEqual(last_of(suit(hand1=row)), [-1])
        for row in ([1, 2, 3, 4, 5, 6], [1] * 100):
            self.assertEqual(last_of(suit(missing=row)), [-1])


class Refusals(unittest.TestCase):
    def test_a_card_twice_in_one_row(self):
        self.assertEqual(last_of(suit(hand0=[5, 5])), [-3])
        self.assertEqual(last_of(suit(hand1=[5, 6, 5])), [-3])
        self.assertEqual(last_of(suit(missing=[1, 5, 6, 7, 1])), [-3])

    def test_a_card_in_two_rows(self):
        self.assertEqual(last_of(suit(hand0=[5], hand1=[6, 5])), [-3])
        self.assertEqual(last_of(suit(hand0=[5], missing=[6, 5])), [-3])
        self.assertEqual(last_of(suit(hand1=[5], missing=[6, 5])), [-3])

    def test_seven_of_ours_and_eight(self):
        self.assertEqual(last_of(suit(hand0=[1, 2, 3, 4], hand1=[5, 6, 7]))[0], 0)
        self.assertEqual(last_of(suit(hand0=[1, 2, 3], hand1=[5, 6, 7, 8]))[0], 0)
        self.assertEqual(last_of(suit(hand0=[1, 2, 3, 4], hand1=[5, 6, 7, 8])), [-4])

    def test_no_room_for_the_missing_cards(self):
        self.assertEqual(last_of(suit(p=0, q=0, missing=[1])), [-5])
        self.assertEqual(last_of(suit(p=2, q=2, missing=[1, 2, 3, 4, 5])), [-5])
        self.assertEqual(last_of(suit(p=4, q=0, missing=[1, 2, 3, 4, 5])), [-5])
        self.assertEqual(last_of(suit(p=2, q=2, missing=[1, 2, 3, 4]))[0], 0)

    def test_out_of_range_comes_first(self):
        self.assertEqual(last_of(suit(hand0=[14, 14])), [-1])
        self.assertEqual(last_of(suit(hand0=[5, 5, 5, 5, 5])), [-1])
        self.assertEqual(last_of(suit(need=5, hand0=[1, 2, 3, 4], hand1=[5, 6, 7, 8])), [-1])
        self.assertEqual(last_of(suit(p=0, q=-1, missing=[1])), [-1])
        self.assertEqual(last_of(suit(cover=2, hand0=[5, 5])), [-1])

    def test_twice_comes_before_too_many(self):
        self.assertEqual(last_of(suit(hand0=[1, 2, 3, 4], hand1=[4, 6, 7, 8])), [-3])
        self.assertEqual(last_of(suit(p=0, q=1, missing=[1, 1])), [-3])

    def test_too_many_of_ours_comes_before_too_many_missing(self):
        self.assertEqual(last_of(suit(p=0, q=0, hand0=[1, 2, 3, 4], hand1=[5, 6, 7, 8], missing=[9])), [-4])


REFUSED = (
    changed(need=5), changed(cover=-1), changed(p=14), changed(q=-1), changed(hand0=[0]),
    changed(hand1=[1, 5, 6, 7, 8]), changed(missing=[5, 6, 7, 8, 9, 10]), changed(hand0=[2]),
    suit(hand0=[1, 2, 3, 4], hand1=[5, 6, 7, 8]), changed(p=1, q=0),
)


class WhatStays(unittest.TestCase):
    def test_a_refused_suit_tells_no_suit(self):
        for refused in REFUSED:
            self.assertEqual(ask(refused, HANDS)[1], [-2])

    def test_a_refused_suit_leaves_the_one_before(self):
        looks = (HANDS, WAYS, ODDS, LEADS)
        before = ask(changed(), *looks)[1:]
        for refused in REFUSED:
            told = ask(changed(), refused, *looks)
            self.assertLess(told[1][0], 0)
            self.assertEqual(told[2:], before)

    def test_a_refused_suit_leaves_the_lead(self):
        looks = (HANDS, WAYS, ODDS, SECONDS)
        before = ask(changed(), lead(0, 3), *looks)[2:]
        for refused in REFUSED:
            self.assertEqual(ask(changed(), lead(0, 3), refused, *looks)[3:], before)

    def test_a_suit_is_told_anew(self):
        looks = (HANDS, WAYS, ODDS, LEADS, lead(1, 2), SECONDS, ODDS)
        fresh = ask(changed(), *looks)
        other = suit(need=4, cover=1, p=9, q=8, hand0=[12, 7], hand1=[10, 9], missing=[11, 1])
        self.assertEqual(ask(other, changed(), *looks)[1:], fresh)
        self.assertEqual(ask(other, ODDS, lead(0, 12), changed(), *looks)[3:], fresh)

    def test_cards_in_any_order(self):
        looks = (HANDS, WAYS, ODDS, LEADS)
        one = ask(suit(need=2, hand0=[13, 11, 4], hand1=[3, 1], missing=[12, 10, 6]), *looks)
        other = ask(suit(need=2, hand0=[4, 13, 11], hand1=[1, 3], missing=[6, 12, 10]), *looks)
        self.assertEqual(one, other)


if __name__ == "__main__":
    unittest.main()
