"""How the defenders play: told rules, so that a split alone settles each of their cards.

A defender's cards are a tuple, falling; 0 stands for no card.
"""

JACK = 10


def lowest_above(cards, floor):
    """The lowest card above floor; the lowest of all where none is above it."""
    for card in reversed(cards):
        if card > floor:
            return card
    return cards[-1]


def second_card(cards, led, cover):
    """The card of the defender behind the lead."""
    if len(cards) == 0:
        return 0
    if cover == 1 and led >= JACK:
        return lowest_above(cards, led)
    return cards[-1]


def last_card(cards, ours, partner):
    """The card of the last defender; ours is the higher of our two cards."""
    if len(cards) == 0:
        return 0
    if partner > ours:
        return cards[-1]
    return lowest_above(cards, ours)
