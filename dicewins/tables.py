"""Skew tables, and the tables of cups."""

from dicewins.amounts import is_int, is_row, picked_numbers
from dicewins.cups import Cup
from dicewins.errors import BadNumber, BadTable, OtherSize
from dicewins.throws import rank_leads


def table_of(cup):
    """The table of the cup."""
    dice = Cup.checked(cup)
    many = len(dice)
    # in a deck most entries are 0, so only the others are looked at again and again
    held = [[rank for rank, entry in enumerate(die) if entry] for die in dice]
    rows = [[0] * many for _ in range(many)]
    for other in range(many):
        worths = rank_leads(dice[other])
        for number in range(other):
            die = dice[number]
            worth = sum([die[rank] * worths[rank] for rank in held[number]])
            rows[number][other] = worth
            rows[other][number] = -worth
    return tuple([tuple(row) for row in rows])


def check_table(rows):
    """The table as a tuple of tuples."""
    if not is_row(rows) or not rows:
        raise BadTable(-1)
    many = len(rows)
    for row in rows:
        if not is_row(row) or len(row) != many:
            raise BadTable(-1)
    for i in range(many):
        for j in range(many):
            entry = rows[i][j]
            turned = rows[j][i]
            if not is_int(entry) or not is_int(turned) or entry != -turned:
                raise BadTable(i * many + j)
    return tuple([tuple(row) for row in rows])


def pairs_below(many):
    """All pairs (i, j) with i < j of numbers below many, in reading order."""
    return [(i, j) for i in range(many) for j in range(i + 1, many)]


def is_odd(table):
    """True if all entries off the diagonal are odd."""
    return all([entry & 1 for entry in pair_entries(table)])


def both_tables(first, second):
    """Two tables of one number of dice."""
    one = check_table(first)
    two = check_table(second)
    if len(one) != len(two):
        raise OtherSize(len(one), len(two))
    return one, two


def table_sum(first, second):
    """The sum of two tables, entry by entry."""
    one, two = both_tables(first, second)
    return tuple([tuple([a + b for a, b in zip(row, other)]) for row, other in zip(one, two)])


def table_times(table, number):
    """The table with each entry multiplied by the number."""
    rows = check_table(table)
    if not is_int(number):
        raise BadNumber("number")
    return tuple([tuple([entry * number for entry in row]) for row in rows])


def sub_table(table, numbers):
    """The table of the dice with these numbers, in the order of the row."""
    rows = check_table(table)
    chosen = picked_numbers(numbers, len(rows))
    return tuple([tuple([rows[i][j] for j in chosen]) for i in chosen])


def pair_entries(table):
    """The entries above the diagonal, in reading order."""
    rows = check_table(table)
    return tuple([rows[i][j] for i, j in pairs_below(len(rows))])


def throws_times(cup, table):
    """The integer c >= 1 for which the cup throws c times the table, None if there is none."""
    dice = Cup.checked(cup)
    rows = check_table(table)
    if len(dice) != len(rows):
        raise OtherSize(len(dice), len(rows))
    thrown = pair_entries(table_of(dice))
    asked = pair_entries(rows)
    places = [place for place, entry in enumerate(asked) if entry]
    if not places:
        return None if any(thrown) else 1
    times = thrown[places[0]] // asked[places[0]]
    if times < 1 or thrown != tuple([times * entry for entry in asked]):
        return None
    return times
