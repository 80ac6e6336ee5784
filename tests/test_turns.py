"""Which call is for which turn, which refusal comes first, and that a refusal changes nothing."""

import unittest

from tests.helper import (
    HANDS, HUGE, LASTS, LEADS, ODDS, SECONDS, THIRDS, WAYS, ask, blind, last, last_of, lead, second, suit, third,
)

# After so many of these it is the turn of that number; after all of them a lead is due again.
COURSE = (suit(need=2, hand0=[13, 11, 3], hand1=[2, 1], missing=[12, 5]), lead(1, 2), second(5), third(11), last(12))
# Each call with its turn, with arguments that are good then.
CALLS = (
    (LEADS, 1), (lead(1, 2), 1), (blind(), 1), (blind(0, 13, 2), 1), (SECONDS, 2), (second(5), 2), (THIRDS, 3),
    (third(11), 3), (LASTS, 4), (last(12), 4),
)
# Each call with its turn, with arguments that are refused with -6 then.
NO_SUCH = (
    (lead(1, 13), 1), (lead(0, 12), 1), (second(13), 2), (second(7), 2), (third(2), 3), (third(0), 3),
    (last(5), 4), (last(7), 4),
)
OUTSIDE = (
    lead(-1, 13), lead(2, 13), lead(0, 0), lead(0, 14), second(-1), second(14), third(-1), third(14), last(-1),
    last(14), blind(0), blind(0, 13, 2, 0), blind(-1, 13, 2), blind(2, 13, 2), blind(0, -1, 2), blind(0, 14, 2),
    blind(0, 13, -1), blind(0, 13, 14), blind(*[0] * 15), second(HUGE), third(-HUGE), last(HUGE),
)
BAD_SUITS = (
    (suit(need=5), -1), (suit(hand0=[3, 3]), -3), (suit(hand0=[1, 2, 3, 4], hand1=[5, 6, 7, 8]), -4),
    (suit(p=0, q=0, missing=[1]), -5),
)
ALL_WITH_WEST = suit(need=2, hand0=[13, 11, 3], hand1=[2, 1], missing=[12, 5], p=2, q=0)


def looks(turn):
    return (HANDS, WAYS, ODDS, (HANDS, LEADS, SECONDS, THIRDS, LASTS)[turn])


class Turns(unittest.TestCase):
    def test_the_course(self):
        self.assertEqual(ask(*COURSE)[1:], [[0], [0], [0], [0, 0]])
        for turn in range(1, 5):
            self.assertEqual(last_of(*COURSE[:turn], HANDS)[:2], [0, turn])
        self.assertEqual(last_of(*COURSE, HANDS)[:2], [0, 1])

    def test_each_call_at_each_turn(self):
        for call, own in CALLS:
            for turn in range(5):
                with self.subTest(call=call, turn=turn):
                    told = last_of(*COURSE[:turn], call)
                    if turn == own:
                        self.assertEqual(told[0], 0)
                    else:
                        self.assertEqual(told, [-2])

    def test_a_lead_is_due_behind_a_trick(self):
        for call, own in CALLS:
            if own != 1:
                self.assertEqual(last_of(*COURSE, call), [-2])
        self.assertEqual(last_of(*COURSE, LEADS)[0], 0)
        self.assertEqual(last_of(*COURSE, lead(1, 1)), [0])
        self.assertEqual(last_of(*COURSE, blind())[0], 0)

    def test_odds_ways_and_hands_are_for_all_turns(self):
        for look in (ODDS, WAYS, HANDS):
            self.assertEqual(last_of(look), [-2])
            for turn in range(1, 6):
                self.assertEqual(last_of(*COURSE[:turn], look)[0], 0)

    def test_suit_is_for_all_turns(self):
        for turn in range(6):
            self.assertEqual(last_of(*COURSE[:turn], COURSE[0]), [0, 4, 10400600])
            for bad, refusal in BAD_SUITS:
                self.assertEqual(last_of(*COURSE[:turn], bad), [refusal])

    def test_a_suit_that_was_refused_is_no_suit(self):
        for bad, refusal in BAD_SUITS:
            for call, own in CALLS:
                self.assertEqual(ask(bad, call), [[refusal], [-2]])


class Order(unittest.TestCase):
    def test_out_of_range_comes_before_the_turn(self):
        for call in OUTSIDE:
            for turn in range(6):
                with self.subTest(call=call, turn=turn):
                    self.assertEqual(last_of(*COURSE[:turn], call), [-1])

    def test_the_turn_comes_before_the_card(self):
        for call, own in NO_SUCH:
            for turn in range(5):
                with self.subTest(call=call, turn=turn):
                    self.assertEqual(last_of(*COURSE[:turn], call), [-6] if turn == own else [-2])


class NothingChanged(unittest.TestCase):
    def test_by_a_refusal(self):
        calls = [call for call, own in CALLS + NO_SUCH + BAD_SUITS] + list(OUTSIDE)
        for turn in range(1, 5):
            before = ask(*COURSE[:turn], *looks(turn), *COURSE[turn:], HANDS, WAYS)[turn:]
            for call in calls:
                if last_of(*COURSE[:turn], call)[0] < 0:
                    with self.subTest(call=call, turn=turn):
                        told = ask(*COURSE[:turn], call, *looks(turn), *COURSE[turn:], HANDS, WAYS)
                        self.assertEqual(told[turn + 1:], before)

    def test_by_looking(self):
        for turn in range(1, 5):
            after = looks(turn) + COURSE[turn:] + (HANDS, WAYS)
            before = ask(*COURSE[:turn], *after)[turn:]
            told = ask(*COURSE[:turn], *looks(turn), *looks(turn), *after)
            self.assertEqual(told[turn + 8:], before)

    def test_by_many_refusals_in_a_row(self):
        calls = list(OUTSIDE)
        for turn in range(1, 5):
            before = ask(*COURSE[:turn], *looks(turn))[turn:]
            told = ask(*COURSE[:turn], *calls, *looks(turn))
            self.assertEqual(told[turn + len(calls):], before)


class NoCards(unittest.TestCase):
    def test_a_defender_without_cards(self):
        self.assertEqual(ask(ALL_WITH_WEST, lead(1, 2), SECONDS, second(5), second(0), HANDS)[2:], [
            [0, 0, 1], [-6], [0], [0, 3, 2, 3, 13, 11, 3, 2, 2, 1],
        ])
        split = ask(ALL_WITH_WEST, lead(0, 13), second(5), third(2), LASTS, last(12), last(0), HANDS)
        self.assertEqual(split[4:], [[0, 0, 1], [-6], [0, 1], [0, 1, 1, 2, 11, 3, 1, 1]])

    def test_nobody_else_has_a_card(self):
        told = suit(need=1, hand0=[1], p=2, q=1)
        split = ask(told, lead(0, 1), SECONDS, second(0), THIRDS, third(0), LASTS, ODDS, last(0), HANDS)
        self.assertEqual(split[1:], [
            [0], [0, 0, 3], [0], [0, 0, 3], [0], [0, 0, 3], [0, 3, 3], [0, 1], [0, 1, 0, 0, 0],
        ])


if __name__ == "__main__":
    unittest.main()
