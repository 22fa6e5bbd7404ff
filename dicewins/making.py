"""Cups and decks that have a told table."""

from math import isqrt

from dicewins.cups import Cup
from dicewins.reaching import cup_of_ranks, lead_ranks
from dicewins.tables import check_table, pair_entries, pairs_below


def one_rank(many, number, entry):
    """A rank at which one die alone has faces."""
    return [entry if number == i else 0 for i in range(many)]


def two_rank(many, first, second, pair):
    """A rank at which two dice at most have faces."""
    return [pair[0] if first == i else pair[1] if second == i else 0 for i in range(many)]


def wrapped(ranks, many, first, second, worth):
    """The ranks with lower and higher ones of two dice put round them, which adds worth to their lead.

    Each of the two has as many faces below the old ranks as above them, so no other lead changes.
    There are no new ties if worth is even.
    """
    if worth < 0:
        return wrapped(ranks, many, second, first, -worth)
    half = isqrt((worth + 1) // 2 - 1) + 1
    lower = [two_rank(many, first, second, pair) for pair in lead_ranks(half, half, worth - half * half)]
    higher = [one_rank(many, second, half), one_rank(many, first, half)]
    return lower + ranks + higher


def with_leads(ranks, many, leads):
    """The ranks wrapped for each pair of dice, whose lead grows as leads tells of it in reading order."""
    for pair, worth in zip(pairs_below(many), leads):
        if worth != 0:
            ranks = wrapped(ranks, many, pair[0], pair[1], worth)
    return ranks


def missing_halves(ranks):
    """For each die half the number of faces that it needs to have as many as the die with most of them."""
    counts = [sum(column) for column in zip(*ranks)]
    most = max(counts)
    return [(most - count) // 2 for count in counts]


def cup_for(table):
    """A Cup that has the table, with equal numbers of faces."""
    rows = check_table(table)
    many = len(rows)
    leads = pair_entries(rows)
    if not any(leads):
        return Cup([(1,)] * many)
    ranks = with_leads([], many, leads)
    halves = missing_halves(ranks)
    if any(halves):
        ranks = [halves] + ranks + [halves]
    return cup_of_ranks(ranks)


def faces_needed(table):
    """Twice the sum of the sizes of the entries above the diagonal, or 1 if that is 0."""
    return max(1, 2 * sum([abs(entry) for entry in pair_entries(table)]))


def odd_lot(table):
    """The set of the dice with an odd entry, None if two of them have an even one between them."""
    rows = check_table(table)
    lot = [number for number, row in enumerate(rows) if any([entry & 1 for entry in row])]
    for i in lot:
        for j in lot:
            if i != j and not rows[i][j] & 1:
                return None
    return tuple(lot)


def deck_ranks(rows, lot):
    """The ranks of a deck with the table rows, whose odd lot is lot."""
    many = len(rows)
    others = [one_rank(many, number, 1) for number in range(many) if number not in lot]
    middle = [one_rank(many, number, 1) for number in lot]
    # each lead below is even: -1 within the lot, otherwise 0
    leads = []
    for i, j in pairs_below(many):
        leads.append(rows[i][j] + (1 if i in lot and j in lot else 0))
    return with_leads(others + middle + others[::-1], many, leads)


def deck_for(table):
    """A deck that has the table, None if there is none."""
    rows = check_table(table)
    lot = odd_lot(rows)
    if lot is None:
        return None
    return cup_of_ranks(deck_ranks(rows, lot))


def even_deck_for(table):
    """A deck that has the table and equal numbers of faces, None if there is none."""
    rows = check_table(table)
    many = len(rows)
    lot = odd_lot(rows)
    if lot is None or 0 < len(lot) < many:
        return None
    ranks = deck_ranks(rows, lot)
    halves = missing_halves(ranks)
    more = [one_rank(many, number, half) for number, half in enumerate(halves) if half]
    return cup_of_ranks(more + ranks + more[::-1])


def deck_beside(cup):
    """The deck beside the cup."""
    dice = Cup.checked(cup)
    steps = []
    for entries in zip(*dice):
        held = [(number, entry) for number, entry in enumerate(entries) if entry]
        steps.extend(held)
        steps.extend(held[::-1])
    rows = [[0] * len(steps) for _ in dice]
    for rank, (number, entry) in enumerate(steps):
        rows[number][rank] = entry
    return Cup(rows)
