"""What the tests share: calls in their flat form, answers call by call, and a second, slower way to the odds."""

from math import comb

from onesuit.odds import answers

ODDS = [1]
WAYS = [2]
HANDS = [3]
LEADS = [4]
SECONDS = [6]
HUGE = 10 ** 18


def suit(need=0, cover=0, p=13, q=13, hand0=(), hand1=(), missing=()):
    call = [0, need, cover, p, q]
    for row in (hand0, hand1, missing):
        call += [len(row)] + list(row)
    return call


def lead(hand, card):
    return [5, hand, card]


def ask(*calls):
    """The answers to these calls, a list for each."""
    line = [number for call in calls for number in call]
    told = answers(line)
    split = []
    at = 0
    while at < len(told):
        split.append(told[at + 1:at + 1 + told[at]])
        at += 1 + told[at]
    if at != len(told) or len(split) != len(calls):
        raise AssertionError(f"counts don't fit: {told}")
    return split


def last_of(*calls):
    return ask(*calls)[-1]


def all_deals(p, q, missing):
    """Each split as (ways, west, east), found by counting masks down: the highest card is the highest bit."""
    rising = sorted(missing)
    deals = []
    for mask in range(2 ** len(rising) - 1, -1, -1):
        west = {card for bit, card in enumerate(rising) if mask >> bit & 1}
        east = set(rising) - west
        if len(west) <= p and len(east) <= q:
            deals.append((comb(p + q - len(rising), p - len(west)), frozenset(west), frozenset(east)))
    return deals


def plays_second(cards, led, cover):
    above = [card for card in cards if card > led]
    if cover and led > 9 and above:
        return min(above)
    return min(cards, default=0)


def plays_last(cards, led, third, partner):
    above = [card for card in cards if card > led and card > third]
    if above and not (partner > led and partner > third):
        return min(above)
    return min(cards, default=0)


class Oracle:
    """Finds, for every play there is, the whole set of splits in which it makes it, and only then counts ways.

    A set that lies within another one is dropped: the other play is never worse.
    """

    def __init__(self, need, cover, p, q, hand0, hand1, missing):
        self.cover = cover
        self.need = need
        self.hands = (frozenset(hand0), frozenset(hand1))
        self.deals = all_deals(p, q, missing)
        self.every = frozenset(range(len(self.deals)))

    def ways(self, made):
        return sum(self.deals[at][0] for at in made)

    def best(self, sets):
        return max(self.ways(made) for made in sets)

    def odds(self):
        return self.best(self.at_lead(self.need, self.hands, self.every, frozenset()))

    def leads(self):
        told = []
        for hand in (0, 1):
            for led in sorted(self.hands[hand], reverse=True):
                sets = self.after_lead(self.need, self.hands, self.every, frozenset(), hand, led)
                told += [hand, led, self.best(sets)]
        return told

    def seconds(self, hand, led):
        found = {}
        for ways, west, east in self.deals:
            card = plays_second((west, east)[hand], led, self.cover)
            found[card] = found.get(card, 0) + ways
        return [number for card in sorted(found, reverse=True) for number in (card, found[card])]

    def held(self, at, side, gone):
        return self.deals[at][1 + side] - gone

    def at_lead(self, need, hands, alive, gone):
        if need == 0:
            return {alive}
        sets = {frozenset()}
        for hand in (0, 1):
            for led in hands[hand]:
                sets |= self.after_lead(need, hands, alive, gone, hand, led)
        return widest(sets)

    def after_lead(self, need, hands, alive, gone, hand, led):
        groups = grouped(alive, lambda at: plays_second(self.held(at, hand, gone), led, self.cover))
        parts = []
        for second, group in groups.items():
            sets = set()
            for third in hands[1 - hand] or (0,):
                sets |= self.after_third(need, hands, group, gone, hand, led, second, third)
            parts.append(widest(sets))
        return joined(parts)

    def after_third(self, need, hands, alive, gone, hand, led, second, third):
        groups = grouped(alive, lambda at: plays_last(self.held(at, 1 - hand, gone), led, third, second))
        left = (hands[0] - {led, third}, hands[1] - {led, third})
        parts = []
        for last, group in groups.items():
            ours = max(led, third, second, last) in (led, third)
            parts.append(self.at_lead(max(need - ours, 0), left, group, gone | {second, last}))
        return joined(parts)


def grouped(alive, card_of):
    groups = {}
    for at in alive:
        groups.setdefault(card_of(at), set()).add(at)
    return {card: frozenset(group) for card, group in groups.items()}


def widest(sets):
    return {one for one in sets if not any(one < other for other in sets)}


def joined(parts):
    """Every choice of one set from each part, put together."""
    sets = {frozenset()}
    for part in parts:
        sets = {one | other for one in sets for other in part}
    return widest(sets)
