"""Dice on two, three and four ranks, and rows that alternate."""

from dicewins.amounts import check_int
from dicewins.cups import Cup
from dicewins.dice import die_of
from dicewins.errors import OtherSize
from dicewins.fractions_of import lowest
from dicewins.weighing import entries_of


def slope(die):
    """The slope of a die on two or three ranks, None if it has none."""
    entries = die_of(die)
    if not 2 <= len(entries) <= 3:
        raise OtherSize(3, len(entries))
    low = sum(entries[:-1])
    return lowest(sum(entries[1:]), low) if low else None


def ring_on_four(many):
    """A Cup on four ranks in which each die beats the next one and the last one beats the first."""
    check_int(many, "many", 3)
    # points (x, y) round a middle, each next one to the left of the one before; the lead of a die over
    # another one is four times the area that their two points span with the middle
    points = [(x, 1) for x in range(many - 2, -1, -1)] + [(-1, -2)]
    level = 3 * many
    return Cup([(level - x + y, level + 3 * x - y, level - 3 * x - y, level + x + y) for x, y in points])


def alternates(row):
    """True if the row is e, -e, e, .., e of odd length, or all 0."""
    entries = entries_of(row)
    if not any(entries):
        return True
    if len(entries) % 2 == 0:
        return False
    return all([entry == -other for entry, other in zip(entries, entries[1:])])
