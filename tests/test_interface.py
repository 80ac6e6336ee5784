"""answers(calls): numbers in, numbers out, and nothing else touched or kept."""

import unittest
from math import comb

from onesuit.odds import answers
from tests.helper import (
    HANDS, HUGE, LASTS, LEADS, ODDS, SECONDS, THIRDS, WAYS, ask, blind, last, lead, second, suit, third,
)


class Untouchable(list):
    """A list that says so when it is changed."""

    def refuse(self, *others):
        raise AssertionError("what is handed in is changed")

    __setitem__ = __delitem__ = __iadd__ = __imul__ = refuse
    append = extend = insert = pop = remove = clear = reverse = sort = refuse


LINE = sum([
    ODDS, suit(need=2, hand0=[11, 13], hand1=[1, 2], missing=[5, 12]), HANDS, WAYS, ODDS, LEADS, SECONDS,
    lead(1, 13), lead(1, 14), lead(1, 1), SECONDS, ODDS, LEADS, suit(hand0=[3, 3]), HANDS,
], [])
# All thirteen calls, two of them with a row that is refused.
TRICK = sum([
    suit(need=2, hand0=[11, 13], hand1=[1, 2], missing=[5, 12]), blind(0, 13, 1, 0, 11, 2), blind(1, 2), blind(),
    lead(1, 1), SECONDS, second(2), second(5), ODDS, THIRDS, third(1), third(11), LASTS, HANDS, last(13), last(0),
    WAYS, LEADS, blind(0, 13, 2), suit(p=14, hand0=[7, 7]), HANDS,
], [])


class Interface(unittest.TestCase):
    def test_number_by_number(self):
        self.assertEqual(answers(LINE), [
            1, -2,
            3, 0, 4, 10400600,
            9, 0, 1, 2, 2, 13, 11, 2, 2, 1,
            21, 0, 2496144, 2, 12, 5, 0, 2704156, 1, 12, 1, 5, 2704156, 1, 5, 1, 12, 2496144, 0, 2, 12, 5,
            3, 0, 5408312, 10400600,
            13, 0, 0, 13, 5408312, 0, 11, 2496144, 1, 2, 5408312, 1, 1, 5408312,
            1, -2,
            1, -6,
            1, -1,
            1, 0,
            7, 0, 12, 2704156, 5, 5200300, 0, 2496144,
            3, 0, 5408312, 10400600,
            1, -2,
            1, -3,
            9, 0, 2, 2, 2, 13, 11, 2, 2, 1,
        ])

    def test_all_calls_number_by_number(self):
        self.assertEqual(answers(TRICK), [
            3, 0, 4, 10400600,
            2, 0, 5408312,
            1, -1,
            2, 0, 0,
            1, 0,
            7, 0, 12, 2704156, 5, 5200300, 0, 2496144,
            1, -6,
            1, 0,
            3, 0, 2704156, 5200300,
            5, 0, 13, 2704156, 11, 2496144,
            1, -6,
            1, 0,
            5, 0, 12, 2704156, 0, 2496144,
            9, 0, 4, 2, 2, 13, 11, 2, 2, 1,
            1, -6,
            2, 0, 1,
            5, 0, 2496144, 0, 1, 12,
            7, 0, 0, 13, 2496144, 1, 2, 2496144,
            2, 0, 2496144,
            1, -1,
            7, 0, 1, 1, 1, 13, 1, 2,
        ])

    def test_a_list_of_whole_numbers(self):
        for line in (LINE, TRICK):
            told = answers(line)
            self.assertIs(type(told), list)
            self.assertEqual({type(number) for number in told}, {int})

    def test_what_is_handed_in_is_not_changed(self):
        for line in (LINE, TRICK):
            held = Untouchable(line)
            answers(held)
            self.assertEqual(list(held), line)

    def test_nothing_is_kept(self):
        first = answers(LINE)
        trick = answers(TRICK)
        self.assertEqual(answers(LINE), first)
        self.assertEqual(answers(TRICK), trick)
        for call in (
            ODDS, WAYS, HANDS, LEADS, SECONDS, lead(0, 13), second(5), THIRDS, third(11), LASTS, last(0), blind(),
            blind(0, 13, 2),
        ):
            self.assertEqual(answers(call), [1, -2])

    def test_what_is_given_back_is_the_callers_own(self):
        first = answers(LINE)
        wanted = list(first)
        first.clear()
        self.assertEqual(answers(LINE), wanted)

    def test_long_rows_are_read_to_their_end(self):
        rows = {"hand0": [HUGE] * 100, "hand1": [-HUGE] * 100, "missing": [0] * 100}
        self.assertEqual(ask(suit(**rows), HANDS, suit(hand1=[3], missing=[1] * 100), HANDS), [[-1], [-2]] * 2)
        told = suit(need=0, p=1, q=1)
        self.assertEqual(ask(told, blind(*[12] * 100), blind(*[HUGE] * 12), blind(), HANDS)[1:],
                         [[-1], [-1], [0, 2], [0, 1, 0, 0, 0]])

    def test_the_longest_line(self):
        told = suit(need=3, hand0=[11, 8, 5, 2], hand1=[12, 9, 6], missing=[3, 4, 7, 10, 13])
        again = [told, ODDS, LEADS]
        looks = [lead(0, 8), SECONDS, WAYS, HANDS, lead(0, 2)]
        split = ask(*(again * 15 + looks * 71))
        self.assertEqual(len(split), 400)
        self.assertEqual(split[:45], split[:3] * 15)
        self.assertEqual(split[45], [0])
        self.assertEqual(split[46:50], ask(told, *looks)[2:])
        self.assertEqual(split[50:], ([[-2]] + split[46:50]) * 70)

    def test_fifteen_large_suits(self):
        calls = []
        for k in range(15):
            cards = [(k + 5 * step) % 13 + 1 for step in range(12)]
            rows = {"hand0": cards[:4], "hand1": cards[4:7], "missing": cards[7:]}
            calls += [suit(need=2 + k % 3, cover=k % 2, **rows), ODDS, LEADS]
        split = ask(*calls)
        for at in range(0, len(split), 3):
            self.assertEqual(split[at + 1][1], max(split[at + 2][3::3]))

    def test_most_searches_in_tricks(self):
        told = suit(need=3, cover=1, hand0=[11, 8, 5, 2], hand1=[12, 9, 6], missing=[3, 4, 7, 10, 13])
        calls = [told, ODDS, LEADS, lead(0, 5), ODDS, second(3), ODDS, THIRDS, third(9), ODDS]
        split = ask(*calls * 5)
        self.assertEqual(split[:10] * 5, split)
        self.assertEqual(split[1][1], max(split[2][3::3]))
        self.assertEqual(split[6][1], max(split[7][2::2]))
        self.assertEqual(split[9][1], split[7][2 * split[7][1::2].index(9) + 2])

    def test_as_many_plans_and_tricks_as_there_can_be(self):
        told = suit(need=1, hand0=[13, 8, 5, 2], hand1=[12, 9, 6], missing=[3, 4, 7, 10, 11])
        plan = blind(0, 2, 12, 1, 9, 13, 0, 5, 6, 0, 8, 0)
        self.assertEqual(ask(told, *[plan] * 399)[1:], [[0, 10400600]] * 399)
        trick = [lead(0, 13), second(0), third(12), last(3), blind()]
        split = ask(*([told] + trick) * 66)
        self.assertEqual(split, split[:6] * 66)
        self.assertEqual(split[4:6], [[0, 1], [0, comb(21, 13)]])


if __name__ == "__main__":
    unittest.main()
