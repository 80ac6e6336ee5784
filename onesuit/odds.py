"""The calls on one suit, read number by number and answered number by number."""

from onesuit.table import Table

# For each call, by its place: how many plain numbers it has, and how many rows.
FORMS = (
    (4, 3), (0, 0), (0, 0), (0, 0), (0, 0), (2, 0), (0, 0), (1, 0), (0, 0), (1, 0), (0, 0), (1, 0), (0, 1),
)


def read_rows(calls, start, number):
    """So many rows, each behind its length, from start on."""
    rows = []
    at = start
    for step in range(number):
        end = at + 1 + calls[at]
        rows.append(calls[at + 1:end])
        at = end
    return rows


def call_length(plain, rows):
    """How many numbers the call takes up: its place, its plain numbers, and its rows with their lengths."""
    return 1 + len(plain) + len(rows) + sum([len(row) for row in rows])


def answer(table, place, plain, rows):
    """What the call at this place answers."""
    if place == 0:
        return table.tell_suit(plain[0], plain[1], plain[2], plain[3], rows)
    if place == 1:
        return table.tell_odds()
    if place == 2:
        return table.tell_ways()
    if place == 3:
        return table.tell_hands()
    if place == 4:
        return table.tell_leads()
    if place == 5:
        return table.lead_card(plain[0], plain[1])
    if place == 6:
        return table.tell_seconds()
    if place == 7:
        return table.play_second(plain[0])
    if place == 8:
        return table.tell_thirds()
    if place == 9:
        return table.play_third(plain[0])
    if place == 10:
        return table.tell_lasts()
    if place == 11:
        return table.play_last(plain[0])
    return table.tell_blind(rows[0])


def answers(calls):
    """The answers to the calls, each behind how many numbers it has."""
    table = Table()
    told = []
    at = 0
    while at < len(calls):
        place = calls[at]
        form = FORMS[place]
        start = at + 1 + form[0]
        plain = calls[at + 1:start]
        rows = read_rows(calls, start, form[1])
        numbers = answer(table, place, plain, rows)
        told.append(len(numbers))
        told.extend(numbers)
        at += call_length(plain, rows)
    return told
