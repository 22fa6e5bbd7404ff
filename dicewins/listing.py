"""Cups written as lines."""

from dicewins.cups import Cup
from dicewins.dice import held_ranks
from dicewins.tables import table_of


def leads_on(cup):
    """For each two different dice, in reading order, (i, k, lead of die i over die k)."""
    for number, row in enumerate(table_of(cup)):
        for other, worth in enumerate(row):
            if number != other:
                yield number, other, worth


def die_line(number, die):
    """The line that tells of one die."""
    ranks = " ".join([str(rank) for rank in held_ranks(die)])
    return f"die {number}: faces {sum(die)}, ranks {ranks}"


def listing(cup):
    """The lines of the cup."""
    dice = Cup.checked(cup)
    lines = [die_line(number, die) for number, die in enumerate(dice)]
    for number, other, worth in leads_on(dice):
        if worth > 0:
            lines.append(f"{number} beats {other} by {worth}")
        elif worth == 0 and number < other:
            lines.append(f"{number} ties {other}")
    return lines


def lead_square(cup):
    """The table of the cup as lines of leads."""
    return "".join(["".join([f"{worth:>6}" for worth in row]) + "\n" for row in table_of(cup)])
