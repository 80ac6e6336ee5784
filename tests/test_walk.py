"""Whole lines of calls, each answer held against the model's, which knows the sets of splits of all plays."""

import random
import unittest

from tests.helper import (
    HANDS, HUGE, LASTS, LEADS, NAMES, ODDS, SECONDS, THIRDS, WAYS, Model, ask, blind, last, lead, second, some_suit,
    suit, third,
)

SEARCHED = ([1], [4], [8])
WRONG = (-HUGE, -1, 14, 15, HUGE)


def any_card(source):
    """Mostly a card or none, now and then what is neither."""
    return source.choice(WRONG) if source.random() < 0.05 else source.randint(0, 13)


def any_hand(source):
    return source.choice((-1, 2)) if source.random() < 0.03 else source.randint(0, 1)


def any_call(source):
    """Some call but suit, with arguments that need not fit."""
    name = source.choice(NAMES[1:])
    if name == "lead":
        return lead(any_hand(source), any_card(source))
    if name == "blind":
        plan = []
        for _ in range(source.randint(0, 5)):
            plan += [any_hand(source), any_card(source), any_card(source)]
        return blind(*plan, *([0] if source.random() < 0.1 else []))
    place = NAMES.index(name)
    return [place, any_card(source)] if name in ("second", "third", "last") else [place]


def fitting_plan(source, model):
    """A plan that our hands can follow, or can until its last trick but one."""
    mine = [set(cards) for cards in model.mine]
    plan = []
    while any(mine) and len(plan) < 12:
        hand = source.choice([hand for hand in (0, 1) if mine[hand]])
        led = source.choice(sorted(mine[hand]))
        other = source.choice(sorted(mine[1 - hand]) or [0])
        plan += [hand, led, other]
        mine = [cards - {led, other} for cards in mine]
    if plan and source.random() < 0.3:
        plan[source.randrange(len(plan))] = source.randint(0, 1)
    return blind(*plan)


def next_card(source, model):
    """A call that plays on."""
    if model.turn == 1:
        leads = [lead(hand, card) for hand in (0, 1) for card in sorted(model.mine[hand])]
        return source.choice(leads or [HANDS])
    if model.turn == 3:
        return third(source.choice(model.choices()))
    cards = sorted({model.played(at) for at in model.alive})
    return (second if model.turn == 2 else last)(source.choice(cards))


def looks(model):
    return [ODDS, WAYS, HANDS, (LEADS, SECONDS, THIRDS, LASTS)[model.turn - 1]]


class Walks(unittest.TestCase):
    def walk(self, source, ours, missing, steps):
        """So many calls, some that look, some that play on, some that fit or don't; each answer is compared."""
        model = Model()
        calls = []
        wanted = []

        def say(call):
            calls.append(call)
            wanted.append(model.answer(call))

        if source.random() < 0.2:
            say(any_call(source))
        say(suit(*some_suit(source, ours, missing)))
        searched = 0
        while len(calls) < steps:
            kind = source.random()
            if kind < 0.4:
                call = next_card(source, model)
            elif kind < 0.7:
                call = source.choice(looks(model))
            elif kind < 0.8 and model.turn == 1:
                call = fitting_plan(source, model)
            elif kind < 0.985:
                call = any_call(source)
            else:
                call = suit(*some_suit(source, ours, missing))
            searched += call in SEARCHED
            if call not in SEARCHED or searched <= 30:
                say(call)
        with self.subTest(calls=calls):
            self.assertEqual(ask(*calls), wanted)

    def test_small_suits(self):
        source = random.Random(4)
        for _ in range(120):
            self.walk(source, source.randint(0, 5), source.randint(0, 3), 60)

    def test_all_sizes(self):
        source = random.Random(5)
        for _ in range(40):
            self.walk(source, source.randint(0, 7), source.randint(0, 5), 60)

    def test_long_lines(self):
        source = random.Random(6)
        for _ in range(5):
            self.walk(source, source.randint(3, 6), source.randint(2, 4), 400)


class EachWayThrough(unittest.TestCase):
    """Every course that a small suit can take, with all looks at each moment."""

    def go_through(self, calls):
        model = Model()
        for call in calls:
            model.answer(call)
        seen = looks(model)
        self.assertEqual(ask(*calls, *seen)[len(calls):], [model.answer(look) for look in seen])
        for call in self.nexts(model):
            self.go_through(calls + [call])

    def nexts(self, model):
        if model.turn == 1:
            return [lead(hand, card) for hand in (0, 1) for card in sorted(model.mine[hand])]
        if model.turn == 3:
            return [third(card) for card in model.choices()]
        play = second if model.turn == 2 else last
        return [play(card) for card in sorted({model.played(at) for at in model.alive})]

    def test_a_few_suits(self):
        for told in (
            suit(need=1, hand0=[12, 3], hand1=[5], missing=[13, 4], p=2, q=3),
            suit(need=2, cover=1, hand0=[10, 9], hand1=[13], missing=[12, 11], p=2, q=2),
            suit(need=1, hand1=[11, 6], missing=[12, 7, 2], p=3, q=1),
            suit(need=0, hand0=[8], hand1=[7], missing=[9, 1], p=1, q=1),
        ):
            self.go_through([told])


class AllLeads(unittest.TestCase):
    def check(self, told):
        model = Model()
        calls = [suit(*told), ODDS, LEADS]
        for hand in (0, 1):
            for card in told[4 + hand]:
                calls += [suit(*told), lead(hand, card), ODDS, SECONDS]
        with self.subTest(suit=told):
            self.assertEqual(ask(*calls), [model.answer(call) for call in calls])

    def test_small_suits(self):
        source = random.Random(1)
        for _ in range(200):
            self.check(some_suit(source, source.randint(0, 5), source.randint(0, 3)))

    def test_all_sizes(self):
        source = random.Random(2)
        for _ in range(100):
            self.check(some_suit(source, source.randint(0, 7), source.randint(0, 5)))

    def test_the_largest(self):
        source = random.Random(3)
        for _ in range(12):
            self.check(some_suit(source, 7, 5))


if __name__ == "__main__":
    unittest.main()
