"""What a trick asks of our hands, and whose it is; 0 stands for no card."""


def thirds_of(hands, leader):
    """The cards that the hand beside the leading one may play, falling: 0 alone, if it has none."""
    cards = hands[1 - leader]
    if len(cards) == 0:
        return (0,)
    return cards


def tricks_won(led, second, third, last):
    """1 if the trick of these four cards is ours, else 0."""
    if max(led, third) > max(second, last):
        return 1
    return 0


def need_after(need, won):
    """What is still needed behind so many tricks of ours."""
    return max(need - won, 0)
