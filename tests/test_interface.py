"""answers(calls): numbers in, numbers out, and nothing else touched or kept."""

import unittest

from onesuit.odds import answers
from tests.helper import HANDS, HUGE, LEADS, ODDS, SECONDS, WAYS, ask, last_of, lead, suit


class Untouchable(list):
    """A list that says so when it is changed."""

    def refuse(self, *others):
        raise AssertionError("what is handed in is changed")

    __setitem__ = __delitem__ = __iadd__ = __imul__ = refuse
    append = extend = insert = pop = remove = clear = reverse = sort = refuse


LINE = sum([
    ODDS, suit(need=2, hand0=[11, 13], hand1=[1, 2], missing=[5, 12]), HANDS, WAYS, ODDS, LEADS, SECONDS,
    lead(1, 13), lead(1, 14), lead(1, 1), SECONDS, ODDS, LEADS, suit(hand0=[3, 3]), HANDS,
], [])


class Interface(unittest.TestCase):
    def test_number_by_number(self):
        self.assertEqual(answers(LINE), [
            1, -2,
            3, 0, 4, 10400600,
            9, 0, 1, 2, 2, 13, 11, 2, 2, 1,
            21, 0, 2496144, 2, 12, 5, 0, 2704156, 1, 12, 1, 5, 2704156, 1, 5, 1, 12, 2496144, 0, 2, 12, 5,
            3, 0, 5408312, 10400600,
            13, 0, 0, 13, 5408312, 0, 11, 2496144, 1, 2, 5408312, 1, 1, 5408312,
            1, -2,
            1, -6,
            1, -1,
            1, 0,
            7, 0, 12, 2704156, 5, 5200300, 0, 2496144,
            3, 0, 5408312, 10400600,
            1, -2,
            1, -3,
            9, 0, 2, 2, 2, 13, 11, 2, 2, 1,
        ])

    def test_a_list_of_whole_numbers(self):
        told = answers(LINE)
        self.assertIs(type(told), list)
        self.assertEqual({type(number) for number in told}, {int})

    def test_what_is_handed_in_is_not_changed(self):
        line = Untouchable(LINE)
        answers(line)
        self.assertEqual(list(line), LINE)

    def test_nothing_is_kept(self):
        first = answers(LINE)
        self.assertEqual(answers(LINE), first)
        for call in (ODDS, WAYS, HANDS, LEADS, SECONDS, lead(0, 13)):
            self.assertEqual(answers(call), [1, -2])

    def test_what_is_given_back_is_the_callers_own(self):
        first = answers(LINE)
        wanted = list(first)
        first.clear()
        self.assertEqual(answers(LINE), wanted)

    def test_long_rows_are_read_to_their_end(self):
        rows = {"hand0": [HUGE] * 100, "hand1": [-HUGE] * 100, "missing": [0] * 100}
        self.assertEqual(ask(suit(**rows), HANDS, suit(hand1=[3], missing=[1] * 100), HANDS), [[-1], [-2]] * 2)

    def test_the_longest_line(self):
        told = suit(need=3, hand0=[11, 8, 5, 2], hand1=[12, 9, 6], missing=[3, 4, 7, 10, 13])
        again = [told, ODDS, LEADS]
        looks = [lead(0, 8), SECONDS, WAYS, HANDS, lead(0, 2)]
        split = ask(*(again * 15 + looks * 71))
        self.assertEqual(len(split), 400)
        self.assertEqual(split[:45], split[:3] * 15)
        self.assertEqual(split[45], [0])
        self.assertEqual(split[46:50], ask(told, *looks)[2:])
        self.assertEqual(split[50:], ([[-2]] + split[46:50]) * 70)

    def test_fifteen_large_suits(self):
        calls = []
        for k in range(15):
            cards = [(k + 5 * step) % 13 + 1 for step in range(12)]
            rows = {"hand0": cards[:4], "hand1": cards[4:7], "missing": cards[7:]}
            calls += [suit(need=2 + k % 3, cover=k % 2, **rows), ODDS, LEADS]
        split = ask(*calls)
        for at in range(0, len(split), 3):
            self.assertEqual(split[at + 1][1], max(split[at + 2][3::3]))


class Turns(unittest.TestCase):
    def test_odds_ways_and_hands_are_for_all_turns(self):
        told = suit(need=1, hand0=[4], missing=[3])
        for look in (ODDS, WAYS, HANDS):
            self.assertEqual(last_of(look), [-2])
            self.assertEqual(last_of(told, look)[0], 0)
            self.assertEqual(last_of(told, lead(0, 4), look)[0], 0)

    def test_looking_changes_nothing(self):
        told = suit(need=2, hand0=[13, 11], hand1=[2, 1], missing=[12, 5, 4])
        looks = (ODDS, WAYS, HANDS, LEADS)
        split = ask(told, *looks, *looks, lead(1, 2), *looks, SECONDS, *looks, SECONDS)
        self.assertEqual(split[1:5], split[5:9])
        self.assertEqual(split[10:15], split[15:20])


if __name__ == "__main__":
    unittest.main()
