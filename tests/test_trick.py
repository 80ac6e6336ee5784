"""Calls 7 to 11: the defenders' cards and our other hand's, and what a trick leaves behind."""

import unittest

from tests.helper import (
    HANDS, HUGE, LASTS, LEADS, ODDS, SECONDS, THIRDS, WAYS, ask, last, last_of, lead, second, suit, third,
)

# Ace and queen opposite two small ones, the king and another card missing.
FINESSE = suit(need=2, hand0=[13, 11], hand1=[2, 1], missing=[12, 5])
TOGETHER = 2496144
APART = 2704156

OUTSIDE = (-1, 14, -HUGE, HUGE)


class Second(unittest.TestCase):
    def test_it_is_played(self):
        told = ask(FINESSE, lead(1, 2), second(5), HANDS, WAYS, ODDS)
        self.assertEqual(told[2:], [
            [0],
            [0, 3, 2, 2, 13, 11, 2, 2, 1],
            [0, APART, 1, 12, 1, 5, TOGETHER, 0, 2, 12, 5],
            [0, APART, APART + TOGETHER],
        ])

    def test_none_is_played(self):
        told = ask(FINESSE, lead(1, 2), second(0), WAYS, ODDS)
        self.assertEqual(told[2:], [[0], [0, TOGETHER, 2, 12, 5, 0], [0, 0, TOGETHER]])

    def test_west_behind_hand_0(self):
        told = ask(FINESSE, lead(0, 13), second(12), WAYS)
        self.assertEqual(told[2:], [[0], [0, APART, 1, 12, 1, 5]])

    def test_out_of_range(self):
        for card in OUTSIDE:
            with self.subTest(card=card):
                self.assertEqual(last_of(second(card)), [-1])
                self.assertEqual(last_of(FINESSE, second(card)), [-1])
                self.assertEqual(last_of(FINESSE, lead(0, 13), second(card)), [-1])

    def test_the_ends_of_the_range_are_taken(self):
        told = suit(hand0=[3], missing=[13], p=1, q=1)
        self.assertEqual(last_of(told, lead(0, 3), second(13)), [0])
        self.assertEqual(last_of(told, lead(0, 3), second(0)), [0])

    def test_a_card_that_comes_in_no_split(self):
        for card in (13, 11, 2, 1, 7):
            self.assertEqual(last_of(FINESSE, lead(1, 2), second(card)), [-6])

    def test_a_card_that_they_have_and_do_not_play(self):
        told = suit(hand0=[3], missing=[12, 5], p=2, q=0)
        self.assertEqual(last_of(told, lead(0, 3), second(12)), [-6])
        self.assertEqual(last_of(told, lead(0, 3), second(5)), [0])

    def test_a_card_of_the_other_defender(self):
        told = suit(hand0=[3], missing=[12, 5], p=0, q=2)
        self.assertEqual(last_of(told, lead(0, 3), second(5)), [-6])
        self.assertEqual(last_of(told, lead(0, 3), second(0)), [0])

    def test_one_with_cards_plays_one(self):
        told = suit(hand0=[3], missing=[12, 5], p=2, q=0)
        self.assertEqual(last_of(told, lead(0, 3), second(0)), [-6])

    def test_covering_from_the_jack_on(self):
        rows = {"hand0": [10, 9], "missing": [12, 11, 2], "p": 3, "q": 0}
        for cover, led, comes in ((0, 9, 2), (0, 10, 2), (1, 9, 2), (1, 10, 11)):
            for card in (12, 11, 2):
                with self.subTest(cover=cover, led=led, card=card):
                    answer = last_of(suit(cover=cover, **rows), lead(0, led), second(card))
                    self.assertEqual(answer, [0] if card == comes else [-6])


class Thirds(unittest.TestCase):
    def test_the_odds_of_each_card(self):
        # The ace drops the king if west has it bare, the queen makes two tricks if east has both.
        self.assertEqual(last_of(FINESSE, lead(1, 2), second(5), THIRDS), [0, 13, APART, 11, TOGETHER])
        self.assertEqual(last_of(FINESSE, lead(1, 2), second(12), THIRDS), [0, 13, APART, 11, 0])

    def test_cards_fall(self):
        told = suit(need=0, hand0=[5], hand1=[2, 13, 6], p=1, q=1)
        self.assertEqual(last_of(told, lead(0, 5), second(0), THIRDS), [0, 13, 2, 6, 2, 2, 2])

    def test_the_other_hand_is_empty(self):
        told = suit(need=1, hand1=[9, 4], missing=[8], p=1, q=2)
        self.assertEqual(last_of(told, lead(1, 4), second(0), THIRDS), [0, 0, 1])
        self.assertEqual(last_of(told, lead(1, 4), second(8), THIRDS), [0, 0, 2])
        self.assertEqual(last_of(suit(need=1, hand1=[7], missing=[8], p=1, q=2), lead(1, 7), second(8), THIRDS),
                         [0, 0, 0])


class Third(unittest.TestCase):
    def test_it_is_played(self):
        told = ask(FINESSE, lead(1, 2), second(5), third(11), HANDS, WAYS, ODDS)
        self.assertEqual(told[3:], [
            [0],
            [0, 4, 2, 2, 13, 11, 2, 2, 1],
            [0, APART, 1, 12, 1, 5, TOGETHER, 0, 2, 12, 5],
            [0, TOGETHER, APART + TOGETHER],
        ])

    def test_out_of_range(self):
        for card in OUTSIDE:
            with self.subTest(card=card):
                self.assertEqual(last_of(third(card)), [-1])
                self.assertEqual(last_of(FINESSE, third(card)), [-1])
                self.assertEqual(last_of(FINESSE, lead(0, 13), second(5), third(card)), [-1])

    def test_the_ends_of_the_range_are_taken(self):
        self.assertEqual(last_of(suit(hand0=[3], hand1=[13]), lead(0, 3), second(0), third(13)), [0])
        self.assertEqual(last_of(suit(hand0=[3]), lead(0, 3), second(0), third(0)), [0])

    def test_not_one_of_them(self):
        for card in (0, 2, 1, 12, 5, 7):
            self.assertEqual(last_of(FINESSE, lead(1, 2), second(5), third(card)), [-6])
        for card in (0, 13, 11, 12, 5, 7):
            self.assertEqual(last_of(FINESSE, lead(0, 13), second(5), third(card)), [-6])

    def test_an_empty_hand_plays_none(self):
        told = suit(need=1, hand1=[9, 4], missing=[8], p=1, q=2)
        for card in (9, 4, 8, 1):
            self.assertEqual(last_of(told, lead(1, 4), second(0), third(card)), [-6])
        self.assertEqual(last_of(told, lead(1, 4), second(0), third(0)), [0])


class Lasts(unittest.TestCase):
    def test_falling_with_their_ways(self):
        told = suit(hand0=[8], hand1=[3], missing=[9, 2], p=2, q=3)
        self.assertEqual(last_of(told, lead(0, 8), second(2), third(3), LASTS), [0, 9, 3, 0, 1])
        self.assertEqual(last_of(FINESSE, lead(1, 2), second(5), third(11), LASTS), [0, 12, APART, 0, TOGETHER])

    def test_only_splits_that_may_still_be_so_count(self):
        self.assertEqual(last_of(FINESSE, lead(1, 2), second(12), third(13), LASTS), [0, 5, APART])
        self.assertEqual(last_of(FINESSE, lead(1, 2), second(0), third(13), LASTS), [0, 5, TOGETHER])

    def test_no_missing_cards(self):
        told = suit(hand0=[8], hand1=[3], p=2, q=2)
        self.assertEqual(last_of(told, lead(0, 8), second(0), third(3), LASTS), [0, 0, 6])

    def of_east(self, led, other, behind, west, east):
        """The cards that east may play last, when west has no more cards than these and plays behind."""
        told = suit(p=len(west), q=len(east), hand0=[led], hand1=[other], missing=west + east)
        return last_of(told, lead(0, led), second(behind), third(other), LASTS)[1::2]

    def test_the_lowest_that_wins(self):
        self.assertEqual(self.of_east(5, 3, 0, [], [13, 7, 6, 2]), [6])

    def test_above_both_of_ours(self):
        self.assertEqual(self.of_east(3, 5, 0, [], [13, 4, 2]), [13])
        self.assertEqual(self.of_east(5, 3, 0, [], [13, 4, 2]), [13])

    def test_the_lowest_if_none_wins(self):
        self.assertEqual(self.of_east(12, 3, 0, [], [11, 7, 2]), [2])
        self.assertEqual(self.of_east(3, 12, 0, [], [11, 7, 2]), [2])

    def test_the_lowest_if_the_partner_is_above_both(self):
        self.assertEqual(self.of_east(6, 3, 7, [7], [13, 2]), [2])
        self.assertEqual(self.of_east(3, 6, 7, [7], [13, 2]), [2])

    def test_a_partner_above_one_of_ours_alone(self):
        self.assertEqual(self.of_east(3, 8, 7, [7], [13, 2]), [13])
        self.assertEqual(self.of_east(8, 3, 7, [7], [13, 2]), [13])

    def test_the_last_one_does_not_cover(self):
        told = suit(cover=1, hand0=[13], hand1=[10], missing=[12, 11, 2], p=3, q=0)
        self.assertEqual(last_of(told, lead(1, 10), second(0), third(13), LASTS), [0, 2, 1])


class Last(unittest.TestCase):
    def test_a_trick_of_ours(self):
        told = ask(FINESSE, lead(1, 2), second(5), third(11), last(0), HANDS, WAYS, ODDS)
        self.assertEqual(told[4:], [
            [0, 1],
            [0, 1, 1, 1, 13, 1, 1],
            [0, TOGETHER, 0, 1, 12],
            [0, TOGETHER, TOGETHER],
        ])

    def test_a_trick_of_theirs(self):
        told = ask(FINESSE, lead(1, 2), second(5), third(11), last(12), HANDS, WAYS, ODDS)
        self.assertEqual(told[4:], [
            [0, 0],
            [0, 1, 2, 1, 13, 1, 1],
            [0, APART, 0, 0],
            [0, 0, APART],
        ])

    def test_whose_trick_by_each_of_the_four_cards(self):
        rows = {"missing": [9, 2], "p": 1, "q": 1}
        for led, other, behind, end, ours in (
            (10, 3, 9, 2, 1), (3, 10, 9, 2, 1), (10, 3, 2, 9, 1), (3, 10, 2, 9, 1),
            (8, 3, 9, 2, 0), (3, 8, 9, 2, 0), (8, 3, 2, 9, 0), (3, 8, 2, 9, 0),
        ):
            with self.subTest(led=led, other=other, behind=behind):
                told = suit(need=2, hand0=[led], hand1=[other], **rows)
                self.assertEqual(last_of(told, lead(0, led), second(behind), third(other), last(end)), [0, ours])

    def test_out_of_range(self):
        for card in OUTSIDE:
            with self.subTest(card=card):
                self.assertEqual(last_of(last(card)), [-1])
                self.assertEqual(last_of(FINESSE, last(card)), [-1])
                self.assertEqual(last_of(FINESSE, lead(0, 13), second(5), third(2), last(card)), [-1])

    def test_the_ends_of_the_range_are_taken(self):
        told = suit(hand0=[3], missing=[13], p=1, q=1)
        self.assertEqual(last_of(told, lead(0, 3), second(0), third(0), last(13)), [0, 0])
        self.assertEqual(last_of(told, lead(0, 3), second(13), third(0), last(0)), [0, 0])

    def test_a_card_that_comes_in_no_split(self):
        for card in (13, 11, 5, 2, 1, 7):
            self.assertEqual(last_of(FINESSE, lead(1, 2), second(5), third(11), last(card)), [-6])

    def test_a_card_that_they_have_and_do_not_play(self):
        told = suit(hand0=[3], missing=[12, 5], p=0, q=2)
        self.assertEqual(last_of(told, lead(0, 3), second(0), third(0), last(12)), [-6])
        self.assertEqual(last_of(told, lead(0, 3), second(0), third(0), last(0)), [-6])
        self.assertEqual(last_of(told, lead(0, 3), second(0), third(0), last(5)), [0, 0])

    def test_a_card_of_splits_that_are_out(self):
        self.assertEqual(last_of(FINESSE, lead(1, 2), second(12), third(13), last(0)), [-6])
        self.assertEqual(last_of(FINESSE, lead(1, 2), second(12), third(13), last(12)), [-6])

    def test_need_does_not_go_below_0(self):
        told = suit(need=0, hand0=[13, 12], missing=[3], p=1, q=1)
        split = ask(told, lead(0, 13), second(3), third(0), last(0), HANDS, ODDS, LEADS)
        self.assertEqual(split[4:], [[0, 1], [0, 1, 0, 1, 12, 0], [0, 1, 1], [0, 0, 12, 1]])

    def test_a_lost_trick_leaves_need(self):
        told = suit(need=3, hand0=[2, 1], missing=[3], p=1, q=1)
        self.assertEqual(last_of(told, lead(0, 2), second(3), third(0), last(0), HANDS), [0, 1, 3, 1, 1, 0])


class SeveralTricks(unittest.TestCase):
    def test_to_the_end(self):
        told = suit(need=3, cover=1, hand0=[13, 11, 4], hand1=[10, 3], missing=[12, 7, 6], p=3, q=3)
        split = ask(
            told, ODDS,
            # East is behind hand 1 and covers the jack.
            lead(1, 10), second(12), third(13), last(6), HANDS, WAYS, ODDS,
            lead(1, 3), second(0), third(11), last(7), HANDS, WAYS, ODDS,
            lead(0, 4), second(0), third(0), last(0), HANDS, WAYS, ODDS,
            LEADS, lead(0, 4), SECONDS,
        )
        self.assertEqual(split[2:6], [[0], [0], [0], [0, 1]])
        # East had the king alone, or with the seven above west's six.
        self.assertEqual(split[6:8], [[0, 1, 2, 2, 11, 4, 1, 3], [0, 3, 1, 7, 0, 3, 0, 1, 7]])
        self.assertEqual(split[8], [0, 6, 6])
        self.assertEqual(split[9:13], [[0], [0], [0], [0, 1]])
        self.assertEqual(split[13:16], [[0, 1, 1, 1, 4, 0], [0, 3, 0, 0], [0, 3, 3]])
        self.assertEqual(split[16:20], [[0], [0], [0], [0, 1]])
        self.assertEqual(split[20:23], [[0, 1, 0, 0, 0], [0, 3, 0, 0], [0, 3, 3]])
        self.assertEqual(split[23:], [[0], [-6], [-2]])

    def test_need_that_stays_when_our_cards_are_gone(self):
        told = suit(need=1, hand0=[3], hand1=[2], missing=[5, 4], p=1, q=1)
        split = ask(told, lead(0, 3), second(5), third(2), last(4), HANDS, ODDS, LEADS, WAYS)
        self.assertEqual(split[4:], [[0, 0], [0, 1, 1, 0, 0], [0, 0, 1], [0], [0, 1, 0, 0]])

    def test_cards_that_are_left_with_the_defenders(self):
        told = suit(need=1, hand0=[8], missing=[13, 12, 7, 6], p=2, q=2)
        split = ask(told, lead(0, 8), second(6), third(0), last(12), WAYS, ODDS)
        # West had the six and the ace or the seven; east took the trick with the lowest card above ours.
        self.assertEqual(split[4:], [[0, 0], [0, 1, 1, 13, 1, 7, 1, 1, 7, 1, 13], [0, 0, 2]])

    def test_a_suit_told_anew_in_a_trick(self):
        fresh = suit(need=1, cover=1, hand0=[10, 4], hand1=[6], missing=[11, 3], p=4, q=3)
        looks = (HANDS, WAYS, ODDS, LEADS, lead(0, 10), second(11), THIRDS, third(6), LASTS, last(3), HANDS, WAYS)
        wanted = ask(fresh, *looks)
        before = [FINESSE, lead(1, 2), second(5), third(11), last(12)]
        for length in range(1, 6):
            with self.subTest(length=length):
                self.assertEqual(ask(*before[:length], fresh, *looks)[length:], wanted)


class TheWholeTrick(unittest.TestCase):
    def test_hand_0_leads_through_west(self):
        told = suit(need=1, hand0=[4], hand1=[13], missing=[12, 2], p=2, q=0)
        split = ask(told, lead(0, 4), SECONDS, second(2), THIRDS, third(13), LASTS, last(0), WAYS, HANDS)
        self.assertEqual(split[1:], [
            [0], [0, 2, 1], [0], [0, 13, 1], [0], [0, 0, 1], [0, 1], [0, 1, 1, 12, 0], [0, 1, 0, 0, 0],
        ])

    def test_hand_1_leads_through_east(self):
        told = suit(need=1, hand0=[4], hand1=[13], missing=[12, 2], p=2, q=0)
        split = ask(told, lead(1, 13), SECONDS, second(0), THIRDS, third(4), LASTS, last(2), WAYS, HANDS)
        self.assertEqual(split[1:], [
            [0], [0, 0, 1], [0], [0, 4, 1], [0], [0, 2, 1], [0, 1], [0, 1, 1, 12, 0], [0, 1, 0, 0, 0],
        ])


if __name__ == "__main__":
    unittest.main()
