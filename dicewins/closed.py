"""Closed rows of the dice of a cup, and the chains of their losses."""

from dicewins.amounts import is_int, is_row
from dicewins.chains import closing_turn
from dicewins.cups import Cup
from dicewins.cutting import ring_dice
from dicewins.errors import BadNumber
from dicewins.fractions_of import taken_off
from dicewins.throws import chances_round


def row_chances(cup, numbers):
    """The half chances along the closed row, the last one over the first included."""
    dice = Cup.checked(cup)
    if not is_row(numbers) or len(numbers) < 2:
        raise BadNumber("numbers")
    for number in numbers:
        if not is_int(number) or not 0 <= number < len(dice):
            raise BadNumber("numbers")
    return chances_round([dice[number] for number in numbers], True)


def row_losses(cup, numbers):
    """The losses of the closed row."""
    return tuple([taken_off(1, told) for told in row_chances(cup, numbers)])


def closing_place(cup, numbers):
    """The least closing turn of the half chances along the closed row, and the place where it closes."""
    return closing_turn(row_chances(cup, numbers))


def ring_losses(cup):
    """What each die lacks of the chance 1 over the next one."""
    return tuple([taken_off(1, told) for told in chances_round(ring_dice(cup), False)])


def closing_of(cup):
    """The least closing turn of the chances of each die over the next one, and the place where it closes."""
    return closing_turn(chances_round(ring_dice(cup), False))
