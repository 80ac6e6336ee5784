"""What the tests share: calls in their flat form, answers call by call, and a second, slower way to all of them."""

from math import comb

from onesuit.odds import answers

ODDS = [1]
WAYS = [2]
HANDS = [3]
LEADS = [4]
SECONDS = [6]
THIRDS = [8]
LASTS = [10]
HUGE = 10 ** 18


def suit(need=0, cover=0, p=13, q=13, hand0=(), hand1=(), missing=()):
    call = [0, need, cover, p, q]
    for row in (hand0, hand1, missing):
        call += [len(row)] + list(row)
    return call


def lead(hand, card):
    return [5, hand, card]


def second(card):
    return [7, card]


def third(card):
    return [9, card]


def last(card):
    return [11, card]


def blind(*plan):
    return [12, len(plan)] + list(plan)


def ask(*calls):
    """The answers to these calls, a list for each."""
    line = [number for call in calls for number in call]
    told = answers(line)
    split = []
    at = 0
    while at < len(told):
        split.append(told[at + 1:at + 1 + told[at]])
        at += 1 + told[at]
    if at != len(told) or len(split) != len(calls):
        raise AssertionError(f"counts don't fit: {told}")
    return split


def last_of(*calls):
    return ask(*calls)[-1]


def all_deals(p, q, missing):
    """Each split as (ways, west, east), found by counting masks down: the highest card is the highest bit."""
    rising = sorted(missing)
    deals = []
    for mask in range(2 ** len(rising) - 1, -1, -1):
        west = {card for bit, card in enumerate(rising) if mask >> bit & 1}
        east = set(rising) - west
        if len(west) <= p and len(east) <= q:
            deals.append((comb(p + q - len(rising), p - len(west)), frozenset(west), frozenset(east)))
    return deals


def plays_second(cards, led, cover):
    above = [card for card in cards if card > led]
    if cover and led > 9 and above:
        return min(above)
    return min(cards, default=0)


def plays_last(cards, led, third, partner):
    above = [card for card in cards if card > led and card > third]
    if above and not (partner > led and partner > third):
        return min(above)
    return min(cards, default=0)


class Oracle:
    """Finds, for every play there is, the whole set of splits in which it makes it, and only then counts ways.

    A set that lies within another one is dropped: the other play is never worse.
    """

    def __init__(self, need, cover, p, q, hand0, hand1, missing):
        self.cover = cover
        self.need = need
        self.hands = (frozenset(hand0), frozenset(hand1))
        self.deals = all_deals(p, q, missing)
        self.every = frozenset(range(len(self.deals)))

    def ways(self, made):
        return sum(self.deals[at][0] for at in made)

    def best(self, sets):
        return max(self.ways(made) for made in sets)

    def odds(self):
        return self.best(self.at_lead(self.need, self.hands, self.every, frozenset()))

    def held(self, at, side, gone):
        return self.deals[at][1 + side] - gone

    def at_lead(self, need, hands, alive, gone):
        if need == 0:
            return {alive}
        sets = {frozenset()}
        for hand in (0, 1):
            for led in hands[hand]:
                sets |= self.after_lead(need, hands, alive, gone, hand, led)
        return widest(sets)

    def after_lead(self, need, hands, alive, gone, hand, led):
        groups = grouped(alive, lambda at: plays_second(self.held(at, hand, gone), led, self.cover))
        parts = [self.after_second(need, hands, group, gone, hand, led, card) for card, group in groups.items()]
        return joined(parts)

    def after_second(self, need, hands, alive, gone, hand, led, behind):
        sets = set()
        for other in hands[1 - hand] or (0,):
            sets |= self.after_third(need, hands, alive, gone, hand, led, behind, other)
        return widest(sets)

    def after_third(self, need, hands, alive, gone, hand, led, behind, other):
        groups = grouped(alive, lambda at: plays_last(self.held(at, 1 - hand, gone), led, other, behind))
        left = (hands[0] - {led, other}, hands[1] - {led, other})
        parts = []
        for card, group in groups.items():
            ours = max(led, other, behind, card) in (led, other)
            parts.append(self.at_lead(max(need - ours, 0), left, group, gone | {behind, card}))
        return joined(parts)


def grouped(alive, card_of):
    groups = {}
    for at in alive:
        groups.setdefault(card_of(at), set()).add(at)
    return {card: frozenset(group) for card, group in groups.items()}


def widest(sets):
    return {one for one in sets if not any(one < other for other in sets)}


def joined(parts):
    """Every choice of one set from each part, put together."""
    sets = {frozenset()}
    for part in parts:
        sets = {one | other for one in sets for other in part}
    return widest(sets)


def listed(cards):
    return [len(cards)] + sorted(cards, reverse=True)


NAMES = """suit odds ways hands leads lead seconds second thirds third lasts last blind""".split()
TURNS = {"leads": 1, "lead": 1, "blind": 1, "seconds": 2, "second": 2, "thirds": 3, "third": 3, "lasts": 4, "last": 4}


class Model:
    """Answers calls as the document asks, from the oracle's sets; a suit that is told here is never a refused one."""

    def __init__(self):
        self.turn = 0

    def answer(self, call):
        name = NAMES[call[0]]
        args = call[1:]
        if name == "suit":
            return self.suit(call)
        if self.is_outside(name, args):
            return [-1]
        if self.turn == 0 or TURNS.get(name, self.turn) != self.turn:
            return [-2]
        return getattr(self, name)(*args)

    def is_outside(self, name, args):
        if name == "lead":
            return args[0] not in range(2) or args[1] not in range(1, 14)
        if name == "blind":
            plan = args[1:]
            cards = [number for at, number in enumerate(plan) if at % 3]
            outside = any(hand not in range(2) for hand in plan[::3]) or any(card not in range(14) for card in cards)
            return outside or len(plan) not in (0, 3, 6, 9, 12)
        return bool(args) and args[0] not in range(14)

    def suit(self, call):
        row = 5
        rows = []
        for _ in range(3):
            rows.append(call[row + 1:row + 1 + call[row]])
            row += 1 + call[row]
        self.oracle = Oracle(*call[1:5], *rows)
        self.turn = 1
        self.need = call[1]
        self.mine = self.oracle.hands
        self.alive = self.oracle.every
        self.gone = frozenset()
        return [0, len(self.alive), comb(call[3] + call[4], call[3])]

    def now(self):
        return (self.need, self.mine, self.alive, self.gone)

    def odds(self):
        find = (self.oracle.at_lead, self.oracle.after_lead, self.oracle.after_second, self.oracle.after_third)
        trick = () if self.turn == 1 else self.trick
        return [0, self.oracle.best(find[self.turn - 1](*self.now(), *trick)), self.oracle.ways(self.alive)]

    def ways(self):
        told = [0]
        for at in sorted(self.alive):
            told += [self.oracle.deals[at][0]]
            told += listed(self.oracle.held(at, 0, self.gone)) + listed(self.oracle.held(at, 1, self.gone))
        return told

    def hands(self):
        return [0, self.turn, self.need] + listed(self.mine[0]) + listed(self.mine[1])

    def leads(self):
        told = [0]
        for hand in (0, 1):
            for card in sorted(self.mine[hand], reverse=True):
                told += [hand, card, self.oracle.best(self.oracle.after_lead(*self.now(), hand, card))]
        return told

    def lead(self, hand, card):
        if card not in self.mine[hand]:
            return [-6]
        self.turn = 2
        self.trick = (hand, card)
        return [0]

    def played(self, at):
        """The card of the defender whose turn it is, in this split."""
        hand, led = self.trick[:2]
        if self.turn == 2:
            return plays_second(self.oracle.held(at, hand, self.gone), led, self.oracle.cover)
        return plays_last(self.oracle.held(at, 1 - hand, self.gone), led, self.trick[3], self.trick[2])

    def seconds(self):
        groups = grouped(self.alive, self.played)
        return [0] + [told for card in sorted(groups)[::-1] for told in (card, self.oracle.ways(groups[card]))]

    lasts = seconds

    def second(self, card):
        groups = grouped(self.alive, self.played)
        if card not in groups:
            return [-6]
        self.turn += 1
        self.alive = groups[card]
        self.trick += (card,)
        return [0]

    def choices(self):
        return sorted(self.mine[1 - self.trick[0]], reverse=True) or [0]

    def thirds(self):
        told = [0]
        for card in self.choices():
            told += [card, self.oracle.best(self.oracle.after_third(*self.now(), *self.trick, card))]
        return told

    def third(self, card):
        if card not in self.choices():
            return [-6]
        self.turn = 4
        self.trick += (card,)
        return [0]

    def last(self, card):
        if self.second(card) != [0]:
            return [-6]
        led, behind, other, end = self.trick[1:]
        ours = led > max(behind, end) or other > max(behind, end)
        self.gone |= {behind, end}
        self.mine = (self.mine[0] - {led, other}, self.mine[1] - {led, other})
        self.need -= 1 if ours and self.need else 0
        self.turn = 1
        return [0, int(ours)]

    def blind(self, number, *plan):
        return [0, self.oracle.ways([at for at in self.alive if self.takes(at, plan) >= self.need])]

    def takes(self, at, plan):
        mine = [set(cards) for cards in self.mine]
        theirs = [set(self.oracle.held(at, side, self.gone)) for side in (0, 1)]
        taken = 0
        for hand, led, other in zip(plan[::3], plan[1::3], plan[2::3]):
            if led not in mine[hand] or other not in (mine[1 - hand] or {0}):
                break
            behind = plays_second(theirs[hand], led, self.oracle.cover)
            end = plays_last(theirs[1 - hand], led, other, behind)
            mine = [cards - {led, other} for cards in mine]
            theirs = [cards - {behind, end} for cards in theirs]
            taken += max(led, other) > max(behind, end)
        return taken


def some_suit(source, ours, missing):
    """A suit that isn't refused, with so many cards."""
    first = source.randint(max(0, ours - 4), min(4, ours))
    cards = source.sample(range(1, 14), ours + missing)
    p = source.randint(0, 13)
    q = source.randint(max(0, missing - p), 13)
    rows = (cards[:first], cards[first:ours], cards[ours:])
    return (source.randint(0, 4), source.randint(0, 1), p, q) + rows
