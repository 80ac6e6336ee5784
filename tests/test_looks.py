"""Calls 2 and 3: the splits that may still be so, and our hands."""

import unittest

from tests.helper import HANDS, WAYS, all_deals, last, last_of, lead, second, suit, third


class Ways(unittest.TestCase):
    def test_no_suit(self):
        self.assertEqual(last_of(WAYS), [-2])

    def test_two_missing_cards(self):
        told = last_of(suit(missing=[5, 12]), WAYS)
        self.assertEqual(told, [
            0,
            2496144, 2, 12, 5, 0,
            2704156, 1, 12, 1, 5,
            2704156, 1, 5, 1, 12,
            2496144, 0, 2, 12, 5,
        ])

    def test_the_highest_card_that_differs_settles_the_order(self):
        told = last_of(suit(p=2, q=3, missing=[4, 9, 2]), WAYS)
        self.assertEqual(told, [
            0,
            1, 2, 9, 4, 1, 2,
            1, 2, 9, 2, 1, 4,
            2, 1, 9, 2, 4, 2,
            1, 2, 4, 2, 1, 9,
            2, 1, 4, 2, 9, 2,
            2, 1, 2, 2, 9, 4,
            1, 0, 3, 9, 4, 2,
        ])

    def test_no_missing_cards(self):
        self.assertEqual(last_of(suit(p=1, q=3, hand0=[4]), WAYS), [0, 4, 0, 0])

    def test_nothing_at_all(self):
        self.assertEqual(last_of(suit(p=0, q=0), WAYS), [0, 1, 0, 0])

    def test_all_with_one_defender(self):
        self.assertEqual(last_of(suit(p=0, q=4, missing=[3, 8]), WAYS), [0, 1, 0, 2, 8, 3])
        self.assertEqual(last_of(suit(p=4, q=0, missing=[3, 8]), WAYS), [0, 1, 2, 8, 3, 0])

    def test_five_missing_cards_against_a_count_of_masks(self):
        for p, q in ((13, 13), (4, 9), (9, 2), (3, 2)):
            wanted = [0]
            for ways, west, east in all_deals(p, q, [13, 2, 10, 7, 5]):
                wanted += [ways, len(west), *sorted(west, reverse=True), len(east), *sorted(east, reverse=True)]
            self.assertEqual(last_of(suit(p=p, q=q, missing=[13, 2, 10, 7, 5]), WAYS), wanted)

    def test_a_lead_puts_no_split_out(self):
        told = suit(hand0=[13, 11], hand1=[3], missing=[12, 10, 4])
        self.assertEqual(last_of(told, lead(0, 11), WAYS), last_of(told, WAYS))

    def test_cards_just_played_are_still_told(self):
        calls = [suit(p=2, q=2, hand0=[13, 11], hand1=[3, 1], missing=[12, 10, 4]), lead(0, 11), second(4), third(1)]
        # West has the four, and it is the lowest there.
        wanted = [0, 1, 2, 12, 4, 1, 10, 1, 2, 10, 4, 1, 12, 1, 1, 4, 2, 12, 10]
        self.assertEqual(last_of(*calls[:3], WAYS), wanted)
        self.assertEqual(last_of(*calls, WAYS), wanted)
        self.assertEqual(last_of(*calls, last(12), WAYS), [0, 1, 1, 10, 0, 1, 0, 1, 10])
        self.assertEqual(last_of(*calls, last(10), WAYS), [0, 1, 1, 12, 0])

    def test_a_split_keeps_its_ways(self):
        calls = [suit(p=5, q=5, hand0=[13], hand1=[1], missing=[12, 4]), lead(0, 13), second(4), third(1)]
        self.assertEqual(last_of(*calls, WAYS), [0, 56, 2, 12, 4, 0, 70, 1, 4, 1, 12])
        self.assertEqual(last_of(*calls, last(0), WAYS), [0, 56, 1, 12, 0])
        self.assertEqual(last_of(*calls, last(12), WAYS), [0, 70, 0, 0])

    def test_in_order_behind_a_trick(self):
        calls = [suit(p=3, q=3, hand0=[13], missing=[12, 9, 6, 2]), lead(0, 13), second(2), third(0), last(6)]
        self.assertEqual(last_of(*calls, WAYS), [0, 1, 2, 12, 9, 0, 2, 1, 12, 1, 9, 2, 1, 9, 1, 12, 1, 0, 2, 12, 9])


class Hands(unittest.TestCase):
    def test_no_suit(self):
        self.assertEqual(last_of(HANDS), [-2])

    def test_cards_fall(self):
        told = last_of(suit(need=3, hand0=[2, 13, 7, 9], hand1=[1, 10, 5]), HANDS)
        self.assertEqual(told, [0, 1, 3, 4, 13, 9, 7, 2, 3, 10, 5, 1])

    def test_empty_hands(self):
        self.assertEqual(last_of(suit(need=4), HANDS), [0, 1, 4, 0, 0])
        self.assertEqual(last_of(suit(hand0=[6]), HANDS), [0, 1, 0, 1, 6, 0])
        self.assertEqual(last_of(suit(hand1=[6]), HANDS), [0, 1, 0, 0, 1, 6])

    def test_a_card_just_led_is_still_told(self):
        told = suit(need=2, hand0=[12, 13], hand1=[1, 3])
        self.assertEqual(last_of(told, lead(0, 13), HANDS), [0, 2, 2, 2, 13, 12, 2, 3, 1])
        self.assertEqual(last_of(told, lead(1, 1), HANDS), [0, 2, 2, 2, 13, 12, 2, 3, 1])

    def test_cards_just_played_are_still_told(self):
        calls = [suit(need=2, hand0=[12, 13], hand1=[1, 3], missing=[2]), lead(0, 13), second(2), third(3), last(0)]
        self.assertEqual(last_of(*calls[:3], HANDS), [0, 3, 2, 2, 13, 12, 2, 3, 1])
        self.assertEqual(last_of(*calls[:4], HANDS), [0, 4, 2, 2, 13, 12, 2, 3, 1])
        self.assertEqual(last_of(*calls, HANDS), [0, 1, 1, 1, 12, 1, 1])


if __name__ == "__main__":
    unittest.main()
