"""The suit as it lies on the table, and the calls on it.

Each call gives back its answer as a list: 0 and what is told, or a refusal's number alone.
"""

from onesuit.plan import STEP, ways_of_plan
from onesuit.search import Search
from onesuit.splits import after_trick, all_splits, by_last, by_second, falling, ways_of, without
from onesuit.trick import need_after, thirds_of, tricks_won

OUT_OF_RANGE = -1
NOT_NOW = -2
TOLD_TWICE = -3
TOO_MANY_OURS = -4
TOO_MANY_MISSING = -5
NO_SUCH_CARD = -6

NO_TURN = 0
LEAD_TURN = 1
SECOND_TURN = 2
THIRD_TURN = 3
LAST_TURN = 4

MOST_NEED = 4
MOST_CARDS = 13
MOST_IN_HAND = 4
MOST_OURS = 7
MOST_MISSING = 5
MOST_STEPS = 4
ACE = 13


def is_row(row, most):
    """Whether the row is at most so long, and each number in it a card."""
    return len(row) <= most and all([1 <= card <= ACE for card in row])


def is_suit(need, cover, p, q, rows):
    """Whether the arguments of suit are in their ranges, and its rows as long as told."""
    if not (0 <= need <= MOST_NEED and 0 <= cover <= 1):
        return False
    if not (0 <= p <= MOST_CARDS and 0 <= q <= MOST_CARDS):
        return False
    return is_row(rows[0], MOST_IN_HAND) and is_row(rows[1], MOST_IN_HAND) and is_row(rows[2], MOST_MISSING)


def is_played(card):
    """Whether this may stand for a card that is played: a card, or 0."""
    return 0 <= card <= ACE


def is_plan(row):
    """Whether the row is so long as a plan, and each number in it in its range."""
    if len(row) % STEP != 0 or len(row) > STEP * MOST_STEPS:
        return False
    for at in range(0, len(row), STEP):
        if not (0 <= row[at] <= 1 and is_played(row[at + 1]) and is_played(row[at + 2])):
            return False
    return True


def suit_refusal(p, q, rows):
    """The refusal of a suit whose numbers are in range; 0 if it may be told."""
    cards = rows[0] + rows[1] + rows[2]
    if len(set(cards)) != len(cards):
        return TOLD_TWICE
    if len(rows[0]) + len(rows[1]) > MOST_OURS:
        return TOO_MANY_OURS
    if len(rows[2]) > p + q:
        return TOO_MANY_MISSING
    return 0


def told_groups(groups):
    """Each card that may come, falling, and how many ways it comes in."""
    told = []
    for card in falling(groups):
        told.append(card)
        told.append(ways_of(groups[card]))
    return told


def told_hands(pair):
    """The cards of two hands, each behind how many they are."""
    return [len(pair[0])] + list(pair[0]) + [len(pair[1])] + list(pair[1])


class Table:
    """One suit; at the beginning none is told."""

    def __init__(self):
        self.turn = NO_TURN
        self.need = 0
        self.hands = ((), ())
        self.splits = ()
        self.search = Search(0)
        # The trick as far as it is played; what its turn hasn't reached is left over and not read.
        self.leader = 0
        self.led = 0
        self.second = 0
        self.third = 0

    def tell_suit(self, need, cover, p, q, rows):
        """Call 0: the suit is told anew; rows are hand 0, hand 1 and the missing cards."""
        if not is_suit(need, cover, p, q, rows):
            return [OUT_OF_RANGE]
        refusal = suit_refusal(p, q, rows)
        if refusal != 0:
            return [refusal]
        self.turn = LEAD_TURN
        self.need = need
        self.hands = (falling(rows[0]), falling(rows[1]))
        self.splits = all_splits(p, q, rows[2])
        self.search = Search(cover)
        return [0, len(self.splits), ways_of(self.splits)]

    def odds_if_led(self, leader, led):
        """The odds when the hand has led the card and no more is played."""
        return self.search.after_lead(self.need, self.hands, self.splits, leader, led)

    def odds_if_third(self, third):
        """The odds when our other hand has played the card behind the two that are played."""
        return self.search.after_third(
            self.need, self.hands, self.splits, self.leader, self.led, self.second, third)

    def odds_now(self):
        """The odds at the turn that it is."""
        if self.turn == LEAD_TURN:
            return self.search.at_lead(self.need, self.hands, self.splits)
        if self.turn == SECOND_TURN:
            return self.odds_if_led(self.leader, self.led)
        if self.turn == THIRD_TURN:
            return self.search.after_second(
                self.need, self.hands, self.splits, self.leader, self.led, self.second)
        return self.odds_if_third(self.third)

    def second_groups(self):
        """For each card that may come behind the lead, the splits in which it comes."""
        return by_second(self.splits, self.leader, self.led, self.search.cover)

    def last_groups(self):
        """For each card that the last defender may play, the splits in which they play it."""
        return by_last(self.splits, self.leader, max(self.led, self.third), self.second)

    def tell_odds(self):
        """Call 1: the odds, and the ways that may still be so."""
        if self.turn == NO_TURN:
            return [NOT_NOW]
        return [0, self.odds_now(), ways_of(self.splits)]

    def tell_ways(self):
        """Call 2: the splits that may still be so."""
        if self.turn == NO_TURN:
            return [NOT_NOW]
        told = [0]
        for ways, cards in self.splits:
            told.append(ways)
            told.extend(told_hands(cards))
        return told

    def tell_hands(self):
        """Call 3: turn, need and our cards."""
        if self.turn == NO_TURN:
            return [NOT_NOW]
        return [0, self.turn, self.need] + told_hands(self.hands)

    def tell_leads(self):
        """Call 4: the odds of each lead."""
        if self.turn != LEAD_TURN:
            return [NOT_NOW]
        told = [0]
        for leader in (0, 1):
            for led in self.hands[leader]:
                told.extend([leader, led, self.odds_if_led(leader, led)])
        return told

    def lead_card(self, leader, led):
        """Call 5: the hand leads the card."""
        if not (0 <= leader <= 1 and 1 <= led <= ACE):
            return [OUT_OF_RANGE]
        if self.turn != LEAD_TURN:
            return [NOT_NOW]
        if led not in self.hands[leader]:
            return [NO_SUCH_CARD]
        self.turn = SECOND_TURN
        self.leader = leader
        self.led = led
        return [0]

    def tell_seconds(self):
        """Call 6: the cards that may come behind the lead."""
        if self.turn != SECOND_TURN:
            return [NOT_NOW]
        return [0] + told_groups(self.second_groups())

    def play_second(self, card):
        """Call 7: the defender behind the lead plays the card."""
        if not is_played(card):
            return [OUT_OF_RANGE]
        if self.turn != SECOND_TURN:
            return [NOT_NOW]
        groups = self.second_groups()
        if card not in groups:
            return [NO_SUCH_CARD]
        self.turn = THIRD_TURN
        self.second = card
        self.splits = tuple(groups[card])
        return [0]

    def tell_thirds(self):
        """Call 8: the odds of each card of our other hand."""
        if self.turn != THIRD_TURN:
            return [NOT_NOW]
        told = [0]
        for third in thirds_of(self.hands, self.leader):
            told.extend([third, self.odds_if_third(third)])
        return told

    def play_third(self, card):
        """Call 9: our other hand plays the card."""
        if not is_played(card):
            return [OUT_OF_RANGE]
        if self.turn != THIRD_TURN:
            return [NOT_NOW]
        if card not in thirds_of(self.hands, self.leader):
            return [NO_SUCH_CARD]
        self.turn = LAST_TURN
        self.third = card
        return [0]

    def tell_lasts(self):
        """Call 10: the cards that the last defender may play."""
        if self.turn != LAST_TURN:
            return [NOT_NOW]
        return [0] + told_groups(self.last_groups())

    def play_last(self, card):
        """Call 11: the last defender plays the card, and the trick is over."""
        if not is_played(card):
            return [OUT_OF_RANGE]
        if self.turn != LAST_TURN:
            return [NOT_NOW]
        groups = self.last_groups()
        if card not in groups:
            return [NO_SUCH_CARD]
        won = tricks_won(self.led, self.second, self.third, card)
        self.turn = LEAD_TURN
        self.need = need_after(self.need, won)
        self.hands = without(self.hands, self.led, self.third)
        self.splits = after_trick(groups[card], self.second, card)
        return [0, won]

    def tell_blind(self, plan):
        """Call 12: the ways in which a plan told beforehand takes at least need tricks."""
        if not is_plan(plan):
            return [OUT_OF_RANGE]
        if self.turn != LEAD_TURN:
            return [NOT_NOW]
        return [0, ways_of_plan(plan, self.need, self.hands, self.splits, self.search.cover)]
