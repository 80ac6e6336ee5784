"""The defenders' told rules, card by card."""

import unittest

from onesuit.defence import last_card, second_card


class Second(unittest.TestCase):
    def test_no_cards(self):
        self.assertEqual(second_card((), 12, 1), 0)
        self.assertEqual(second_card((), 3, 0), 0)

    def test_the_lowest(self):
        self.assertEqual(second_card((13, 12, 3), 11, 0), 3)
        self.assertEqual(second_card((13, 12, 3), 9, 1), 3)

    def test_the_lowest_that_covers(self):
        self.assertEqual(second_card((13, 12, 3), 10, 1), 12)
        self.assertEqual(second_card((13, 11, 3), 12, 1), 13)

    def test_nothing_to_cover_with(self):
        self.assertEqual(second_card((11, 10, 3), 12, 1), 3)
        self.assertEqual(second_card((12, 10, 3), 13, 1), 3)


class Last(unittest.TestCase):
    def test_no_cards(self):
        self.assertEqual(last_card((), 5, 0), 0)

    def test_the_partner_has_it(self):
        self.assertEqual(last_card((13, 9, 2), 8, 12), 2)

    def test_the_lowest_that_wins(self):
        self.assertEqual(last_card((13, 9, 2), 8, 7), 9)
        self.assertEqual(last_card((13, 9, 2), 8, 0), 9)

    def test_nothing_wins(self):
        self.assertEqual(last_card((7, 6, 2), 8, 5), 2)


if __name__ == "__main__":
    unittest.main()
