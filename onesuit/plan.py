"""A plan told beforehand: for each trick three numbers, the leading hand, its card, and the other hand's card."""

from onesuit.defence import last_card, second_card
from onesuit.splits import without
from onesuit.trick import thirds_of, tricks_won

STEP = 3


def steps_until_end(row, hands):
    """The plan's tricks as (hand, card, other card), up to where our hands can't follow it."""
    steps = []
    left = hands
    for at in range(0, len(row), STEP):
        leader = row[at]
        led = row[at + 1]
        third = row[at + 2]
        if led not in left[leader] or third not in thirds_of(left, leader):
            return steps
        steps.append((leader, led, third))
        left = without(left, led, third)
    return steps


def tricks_of_steps(steps, cards, cover):
    """How many of these tricks are ours when (west's cards, east's cards) are so."""
    won = 0
    left = cards
    for leader, led, third in steps:
        second = second_card(left[leader], led, cover)
        last = last_card(left[1 - leader], max(led, third), second)
        won += tricks_won(led, second, third, last)
        left = without(left, second, last)
    return won


def ways_of_plan(row, need, hands, splits, cover):
    """How many ways the splits are in which the plan takes at least need tricks."""
    steps = steps_until_end(row, hands)
    return sum([ways for ways, cards in splits if tricks_of_steps(steps, cards, cover) >= need])
