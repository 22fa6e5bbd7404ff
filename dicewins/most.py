"""The greatest lead that one more die can have over a die of a cup."""

from dicewins.amounts import check_between, is_row, shortened
from dicewins.cups import Cup
from dicewins.errors import BadNumber
from dicewins.fractions_of import fraction, in_integers, is_less, lowest, taken_off
from dicewins.further import die_at_gaps
from dicewins.paths import gain_row
from dicewins.programs import greatest_sum
from dicewins.weighing import check_lengths


class Most:
    """A further die with the greatest lead by face, that lead, and weights that show that there is no greater one."""

    def __init__(self, die, value, weights):
        self.die = die
        self.value = value
        self.weights = weights


def bounds_of(bounds, dice, die):
    """The bounds, fractions or None, one for each die; there is none for the die itself."""
    if not is_row(bounds):
        raise BadNumber("bounds")
    told = [None if bound is None else fraction(bound, "bounds") for bound in bounds]
    check_lengths(dice, told)
    if told[die] is not None:
        raise BadNumber("bounds")
    for bound, other in zip(told, dice):
        if bound is not None and is_less(bound, -sum(other)):
            raise BadNumber("bounds")
    return told


def bounded_row(die, bound):
    """For each gap what one face there leads over the die above the bound, times the divisor of the bound."""
    top, bottom = bound
    return [bottom * gain - top for gain in gain_row(die)]


def most_lead(cup, die, bounds):
    """The Most of the further dice that keep the bounds."""
    dice = Cup.checked(cup)
    check_between(die, "die", 0, len(dice) - 1)
    told = bounds_of(bounds, dice, die)
    numbers = [number for number, bound in enumerate(told) if bound is not None]
    # raised so far, all gains are above 0: then a greatest sum uses up all that the last row leaves it
    raised = sum(dice[die]) + 1
    aims = [gain + raised for gain in gain_row(dice[die])]
    rows = [bounded_row(dice[number], told[number]) for number in numbers]
    found = greatest_sum(aims, rows + [[1] * len(aims)], [0] * len(rows) + [1])
    weights = [(0, 1)] * len(dice)
    for number, weight in zip(numbers, found.weights):
        weights[number] = lowest(weight[0] * told[number][1], weight[1])
    counts = shortened(in_integers(found.unknowns)[0])
    return Most(die_at_gaps(counts), taken_off(found.total, raised), tuple(weights))
