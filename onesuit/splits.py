"""The splits of the missing cards: a split is (its ways, (west's cards, east's cards)).

The defender behind a lead of hand 0 is west and behind one of hand 1 east, so the cards of the defender
behind a lead stand at the leading hand's number, and the last defender's at the other one.
"""

from onesuit.defence import last_card, second_card


def falling(cards):
    """The cards as a tuple, the highest first."""
    return tuple(sorted(cards, reverse=True))


def without(pair, one, other):
    """Two hands' cards when these two cards are gone."""
    first = [card for card in pair[0] if card != one and card != other]
    second = [card for card in pair[1] if card != one and card != other]
    return (tuple(first), tuple(second))


def choices(things, taken):
    """How many choices there are of taken things out of all."""
    number = 1
    for step in range(taken):
        number = number * (things - step) // (step + 1)
    return number


def all_shares(missing):
    """Each (west's cards, east's cards), in the order of splits."""
    shares = [((), ())]
    # The highest card goes out first, and to west first: that is the order which splits have.
    for card in falling(missing):
        longer = []
        for west, east in shares:
            longer.append((west + (card,), east))
            longer.append((west, east + (card,)))
        shares = longer
    return shares


def all_splits(p, q, missing):
    """The splits of the missing cards, in order, when west has p cards of every suit and east q."""
    others = p + q - len(missing)
    splits = []
    for west, east in all_shares(missing):
        if len(west) <= p and len(east) <= q:
            splits.append((choices(others, p - len(west)), (west, east)))
    return tuple(splits)


def ways_of(splits):
    """How many ways the splits are together."""
    return sum([split[0] for split in splits])


def by_second(splits, hand, led, cover):
    """For each card that the defender behind the hand's lead plays, the splits in which they play it."""
    groups = {}
    for split in splits:
        card = second_card(split[1][hand], led, cover)
        groups.setdefault(card, []).append(split)
    return groups


def by_last(splits, hand, ours, partner):
    """For each card that the last defender behind the hand's lead plays, the splits in which they play it."""
    groups = {}
    for split in splits:
        card = last_card(split[1][1 - hand], ours, partner)
        groups.setdefault(card, []).append(split)
    return groups


def after_trick(splits, second, last):
    """The splits when the two cards that the defenders have played are gone."""
    return tuple([(split[0], without(split[1], second, last)) for split in splits])
