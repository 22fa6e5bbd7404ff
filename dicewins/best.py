"""Mixes that no die leads over."""

from dicewins.amounts import set_of, shortened
from dicewins.fractions_of import in_integers
from dicewins.programs import greatest_sum
from dicewins.tables import check_table
from dicewins.weighing import Mix, check_lengths, mix_entries, short_table, worth_row


def table_and_mix(table, mix):
    """The table and the weights of the mix, of one length."""
    rows = check_table(table)
    weights = mix_entries(mix)
    check_lengths(rows, weights)
    return rows, weights


def is_best(table, mix):
    """True if no die leads over the mix."""
    rows, weights = table_and_mix(table, mix)
    return max(worth_row(rows, weights)) <= 0


def beaten_by(table, mix):
    """The set of the dice that lose to the mix."""
    rows, weights = table_and_mix(table, mix)
    return tuple([number for number, worth in enumerate(worth_row(rows, weights)) if worth < 0])


def leaders(table, mix):
    """The set of the dice that lead over the mix."""
    rows, weights = table_and_mix(table, mix)
    return tuple([number for number, worth in enumerate(worth_row(rows, weights)) if worth > 0])


def aimed_mix(rows, numbers, aims):
    """A short best Mix of the numbered dice alone that makes the sum of the aims times its parts greatest.

    None if that sum is not above 0 for any best mix of these dice.
    """
    bounded = [[row[die] for die in numbers] for row in rows] + [[1] * len(numbers)]
    found = greatest_sum(aims, bounded, [0] * len(rows) + [1])
    if found.total == (0, 1):
        return None
    weights = [0] * len(rows)
    for number, weight in zip(numbers, in_integers(found.unknowns)[0]):
        weights[number] = weight
    return Mix(shortened(weights))


def best_mix(table):
    """A short Mix that is best."""
    rows = short_table(check_table(table))
    return aimed_mix(rows, list(range(len(rows))), [1] * len(rows))


def best_within(table, numbers):
    """A short best Mix that takes no die outside of the set, None if there is none."""
    rows = short_table(check_table(table))
    chosen = set_of(numbers, len(rows))
    return aimed_mix(rows, chosen, [1] * len(chosen))
