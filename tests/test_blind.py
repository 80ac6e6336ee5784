"""Call 12: plans told beforehand."""

import unittest

from tests.helper import HANDS, HUGE, LEADS, ODDS, WAYS, ask, blind, last, last_of, lead, second, suit, third

# Ace and queen opposite two small ones, the king and another card missing.
ROWS = {"hand0": [13, 11], "hand1": [2, 1], "missing": [12, 5]}
TOGETHER = 2496144
APART = 2704156
ALL = 10400600
ACE_QUEEN = (0, 13, 2, 0, 11, 1)
QUEEN_ACE = (1, 2, 11, 0, 13, 1)
# Four high cards opposite one small one: nothing can go wrong but the plan.
TOP = {"hand0": [13, 12, 11, 10], "hand1": [1], "missing": [3, 2], "p": 2, "q": 2}


def by_plan(rows, need, *plan):
    return last_of(suit(need=need, **rows), blind(*plan))


class Plans(unittest.TestCase):
    def test_no_tricks(self):
        self.assertEqual(by_plan(ROWS, 0), [0, ALL])
        self.assertEqual(by_plan(ROWS, 1), [0, 0])
        self.assertEqual(by_plan({}, 0), [0, ALL])

    def test_a_drop(self):
        self.assertEqual(by_plan(ROWS, 1, *ACE_QUEEN), [0, ALL])
        self.assertEqual(by_plan(ROWS, 2, *ACE_QUEEN), [0, 2 * APART])
        self.assertEqual(by_plan(ROWS, 3, *ACE_QUEEN), [0, 0])

    def test_a_finesse(self):
        self.assertEqual(by_plan(ROWS, 1, *QUEEN_ACE[:3]), [0, TOGETHER])
        self.assertEqual(by_plan(ROWS, 1, *QUEEN_ACE), [0, ALL])
        self.assertEqual(by_plan(ROWS, 2, *QUEEN_ACE), [0, TOGETHER])

    def test_one_to_four_tricks(self):
        plan = (0, 13, 1, 0, 12, 0, 0, 11, 0, 0, 10, 0)
        for tricks in range(5):
            for need in range(5):
                with self.subTest(tricks=tricks, need=need):
                    wanted = [0, 6 if tricks >= need else 0]
                    self.assertEqual(by_plan(TOP, need, *plan[:3 * tricks]), wanted)

    def test_the_other_hand_may_take_it(self):
        rows = {"hand0": [2], "hand1": [13], "missing": [12], "p": 1, "q": 1}
        self.assertEqual(by_plan(rows, 1, 0, 2, 13), [0, 2])
        self.assertEqual(by_plan(rows, 1, 1, 13, 2), [0, 2])

    def test_past_need(self):
        # The first trick is made, the second is lost, the third is made.
        rows = {"hand0": [13, 2, 11], "missing": [12, 3], "p": 0, "q": 2}
        plan = (0, 13, 0, 0, 2, 0, 0, 11, 0)
        self.assertEqual([by_plan(rows, need, *plan) for need in range(4)], [[0, 1], [0, 1], [0, 1], [0, 0]])

    def test_a_trick_lost_first_is_made_up(self):
        rows = {"hand0": [13, 2], "missing": [12, 3], "p": 0, "q": 2}
        self.assertEqual(by_plan(rows, 1, 0, 2, 0, 0, 13, 0), [0, 1])
        self.assertEqual(by_plan(rows, 1, 0, 2, 0), [0, 0])

    def test_covering(self):
        rows = {"hand0": [10, 9], "missing": [11, 3], "p": 2, "q": 0}
        for cover, led, ways in ((0, 10, 1), (1, 10, 0), (0, 9, 1), (1, 9, 1)):
            told = suit(need=1, cover=cover, **rows)
            self.assertEqual(last_of(told, blind(0, led, 0)), [0, ways])

    def test_the_last_one_leaves_the_trick_to_the_partner(self):
        # West's ten is above the nine: east plays the two, and then the king beats our queen.
        rows = {"hand0": [9, 11], "missing": [10, 12, 2], "p": 1, "q": 2}
        plan = (0, 9, 0, 0, 11, 0)
        self.assertEqual(by_plan(rows, 1, *plan), [0, 1])
        self.assertEqual(by_plan({**rows, "p": 0, "q": 3}, 1, *plan), [0, 0])

    def test_never_more_than_the_odds(self):
        told = suit(need=2, **ROWS)
        best = last_of(told, ODDS)[1]
        for plan in (ACE_QUEEN, QUEEN_ACE, (0, 11, 1, 0, 13, 2), (1, 1, 13, 1, 2, 11)):
            self.assertLessEqual(last_of(told, blind(*plan))[1], best)


class Ends(unittest.TestCase):
    def test_at_the_hands_card(self):
        for other in (13, 12, 1, 2, 0, 7):
            plan = (0, 13, 2, 0, other, 1)
            with self.subTest(plan=plan):
                self.assertEqual(by_plan(ROWS, 1, *plan), [0, ALL])
                self.assertEqual(by_plan(ROWS, 2, *plan), [0, 0])
                self.assertEqual(by_plan(ROWS, 2, *plan[3:]), [0, 0])

    def test_at_the_other_hands_card(self):
        for other in (2, 0, 11, 12, 13, 7):
            plan = (0, 13, 2, 0, 11, other)
            with self.subTest(plan=plan):
                self.assertEqual(by_plan(ROWS, 1, *plan), [0, ALL])
                self.assertEqual(by_plan(ROWS, 2, *plan), [0, 0])

    def test_at_once(self):
        for plan in ((0, 12, 2), (0, 2, 13), (0, 0, 0), (0, 13, 0), (0, 13, 5), (1, 13, 2)):
            with self.subTest(plan=plan):
                self.assertEqual(by_plan(ROWS, 0, *plan), [0, ALL])
                self.assertEqual(by_plan(ROWS, 1, *plan), [0, 0])

    def test_it_does_not_go_on_behind_its_end(self):
        self.assertEqual(by_plan(ROWS, 1, 0, 9, 2, *ACE_QUEEN), [0, 0])
        self.assertEqual(by_plan(ROWS, 1, 0, 13, 0, *ACE_QUEEN), [0, 0])
        self.assertEqual(by_plan(ROWS, 2, 0, 13, 2, 0, 13, 2, 0, 11, 1), [0, 0])
        self.assertEqual(by_plan(ROWS, 2, 0, 13, 2, 0, 11, 2, 0, 11, 1), [0, 0])

    def test_0_where_the_other_hand_has_none_and_there_alone(self):
        self.assertEqual(by_plan(TOP, 2, 0, 13, 1, 0, 12, 0), [0, 6])
        self.assertEqual(by_plan(TOP, 1, 0, 13, 0, 0, 12, 0), [0, 0])
        self.assertEqual(by_plan(TOP, 2, 0, 13, 1, 0, 12, 1), [0, 0])
        self.assertEqual(by_plan(TOP, 2, 0, 13, 1, 0, 12, 7), [0, 0])

    def test_an_empty_hand_leads_nothing(self):
        rows = {"hand0": [13], "missing": [5], "p": 1, "q": 1}
        self.assertEqual(by_plan(rows, 1, 1, 0, 13), [0, 0])
        self.assertEqual(by_plan(rows, 1, 0, 13, 0), [0, 2])
        self.assertEqual(by_plan({}, 1, 0, 0, 0), [0, 0])


class InTheMiddle(unittest.TestCase):
    def test_behind_a_trick(self):
        before = (suit(need=2, **ROWS), lead(1, 2), second(5), third(11))
        self.assertEqual(last_of(*before, last(0), blind(0, 13, 1)), [0, TOGETHER])
        self.assertEqual(last_of(*before, last(0), blind(0, 13, 2)), [0, 0])
        self.assertEqual(last_of(*before, last(0), blind()), [0, 0])
        self.assertEqual(last_of(*before, last(12), blind(0, 13, 1)), [0, 0])

    def test_only_splits_that_may_still_be_so_count(self):
        # Behind the ace, one king may have dropped, and the queen is good then.
        before = (suit(need=2, **ROWS), lead(0, 13))
        self.assertEqual(last_of(*before, second(12), third(1), last(5), blind(0, 11, 2)), [0, APART])
        self.assertEqual(last_of(*before, second(5), third(1), last(12), blind(0, 11, 2)), [0, APART])
        self.assertEqual(last_of(*before, second(5), third(1), last(0), blind(0, 11, 2)), [0, 0])

    def test_when_need_is_made(self):
        before = (suit(need=1, **ROWS), lead(0, 13), second(12), third(1), last(5))
        self.assertEqual(last_of(*before, blind()), [0, APART])
        self.assertEqual(last_of(*before, blind(1, 2, 11)), [0, APART])


class WrongPlans(unittest.TestCase):
    def test_lengths(self):
        told = suit(need=0, **ROWS)
        for length in range(101):
            with self.subTest(length=length):
                wanted = [0, ALL] if length in (0, 3, 6, 9, 12) else [-1]
                self.assertEqual(last_of(told, blind(*[0] * length)), wanted)

    def test_each_number_just_outside(self):
        told = suit(need=0, **ROWS)
        plan = [0, 13, 2, 1, 1, 11, 0, 0, 0, 1, 13, 13]
        self.assertEqual(last_of(told, blind(*plan)), [0, ALL])
        for at in range(12):
            most = 13 if at % 3 else 1
            for number in (-1, most + 1, -HUGE, HUGE):
                with self.subTest(at=at, number=number):
                    self.assertEqual(last_of(told, blind(*plan[:at], number, *plan[at + 1:])), [-1])

    def test_each_number_at_its_ends(self):
        told = suit(need=0, **ROWS)
        for at in range(12):
            for number in (0, 13 if at % 3 else 1):
                plan = [1] * 12
                plan[at] = number
                self.assertEqual(last_of(told, blind(*plan)), [0, ALL])

    def test_wrong_numbers_come_first(self):
        before = [suit(**ROWS), lead(1, 2), second(5), third(11)]
        for wrong in (blind(0), blind(2, 13, 2), blind(0, 14, 2), blind(0, 13, -1), blind(*[0] * 15)):
            for length in range(5):
                self.assertEqual(last_of(*before[:length], wrong), [-1])

    def test_wrong_numbers_behind_the_plans_end(self):
        self.assertEqual(by_plan(ROWS, 1, 0, 9, 2, 2, 13, 2), [-1])
        self.assertEqual(by_plan(ROWS, 1, 0, 9, 2, 0, 13, 14), [-1])

    def test_no_suit_and_not_its_turn(self):
        before = [suit(**ROWS), lead(1, 2), second(5), third(11)]
        for plan in ((), ACE_QUEEN):
            for length in (0, 2, 3, 4):
                self.assertEqual(last_of(*before[:length], blind(*plan)), [-2])

    def test_nothing_is_changed(self):
        looks = (HANDS, WAYS, ODDS, LEADS)
        told = suit(need=2, **ROWS)
        before = ask(told, *looks)[1:]
        for plan in (ACE_QUEEN, QUEEN_ACE, (), (0, 12, 2), (1, 2, 13), (7,)):
            self.assertEqual(ask(told, blind(*plan), *looks)[2:], before)


if __name__ == "__main__":
    unittest.main()
