"""The best play: the greatest number of ways in which a play makes it."""

from onesuit.splits import after_trick, by_last, by_second, ways_of, without
from onesuit.trick import need_after, thirds_of, tricks_won


class Search:
    """The odds in the positions of one suit.

    What has been seen shows in the splits that may still be so: with them, our hands and need, a position is
    whole, and how it was reached doesn't matter.
    """

    def __init__(self, cover):
        self.cover = cover
        self.known = {}

    def at_lead(self, need, hands, splits):
        """The odds when a lead is due."""
        if need == 0:
            return ways_of(splits)
        if need > max(len(hands[0]), len(hands[1])):
            return 0
        position = (need, hands, splits)
        if position not in self.known:
            self.known[position] = self.best_lead(need, hands, splits)
        return self.known[position]

    def best_lead(self, need, hands, splits):
        """The odds under the best lead."""
        best = 0
        for leader in (0, 1):
            for led in hands[leader]:
                best = max(best, self.after_lead(need, hands, splits, leader, led))
        return best

    def after_lead(self, need, hands, splits, leader, led):
        """The odds when this card has been led."""
        odds = 0
        for second, group in by_second(splits, leader, led, self.cover).items():
            odds += self.after_second(need, hands, group, leader, led, second)
        return odds

    def after_second(self, need, hands, splits, leader, led, second):
        """The odds under the best card of our other hand."""
        best = 0
        for third in thirds_of(hands, leader):
            best = max(best, self.after_third(need, hands, splits, leader, led, second, third))
        return best

    def after_third(self, need, hands, splits, leader, led, second, third):
        """The odds when our two cards and the one between them have been played."""
        left = without(hands, led, third)
        odds = 0
        for last, group in by_last(splits, leader, max(led, third), second).items():
            still = need_after(need, tricks_won(led, second, third, last))
            odds += self.at_lead(still, left, after_trick(group, second, last))
        return odds
