"""How far the lead by face of an unseen die over another die can go, for told leads by face over some tests."""

from dicewins.amounts import is_row
from dicewins.cups import Cup
from dicewins.dice import die_of
from dicewins.errors import BadNumber
from dicewins.fractions_of import fraction, in_integers, multiplied, taken_off
from dicewins.programs import greatest_sum
from dicewins.telling import rows_of
from dicewins.throws import paired_sum
from dicewins.weighing import check_lengths


class Span:
    """The least and the greatest lead by face over a die, dice that have them, and weights that show them."""

    def __init__(self, low, high, low_die, high_die, low_weights, high_weights):
        self.low = low
        self.high = high
        self.low_die = low_die
        self.high_die = high_die
        self.low_weights = low_weights
        self.high_weights = high_weights


def shares_outcome(rows, told, aims):
    """The Outcome of the program for the shares with the told leads by face, for aims above 0.

    Each lead by face is put as a sum that must be 0, so that what fits may be multiplied. The total is then 0
    exactly if no row of shares fits, and otherwise the unknowns are a row of shares.
    """
    level = [[bottom * entry - top for entry in row] for row, (top, bottom) in zip(rows, told)]
    turned = [[-entry for entry in row] for row in level]
    return greatest_sum(aims, level + turned + [[1] * len(aims)], [0] * (2 * len(rows)) + [1])


def greatest_lead(rows, told, row):
    """The greatest lead by face (value, die, weights) over a die with the test row, None if no shares fit."""
    # all aims must be above 0
    raised = 1 - min(row)
    found = shares_outcome(rows, told, [entry + raised for entry in row])
    if found.total == (0, 1):
        return None
    value = taken_off(found.total, raised)
    weights = []
    rest = value
    for up, down, worth in zip(found.weights, found.weights[len(rows):], told):
        weight = multiplied(taken_off(up, down), worth[1])
        weights.append(weight)
        rest = taken_off(rest, multiplied(weight, worth))
    return value, in_integers(found.unknowns)[0], (tuple(weights), rest)


def negated(part):
    """The fraction with the other sign."""
    return -part[0], part[1]


def span_for(rows, told, row):
    """The Span over a die with the test row, None if no shares fit."""
    most = greatest_lead(rows, told, row)
    if most is None:
        return None
    least = greatest_lead(rows, told, [-entry for entry in row])
    weights, rest = least[2]
    low_weights = (tuple([negated(weight) for weight in weights]), negated(rest))
    return Span(negated(least[0]), most[0], least[1], most[1], low_weights, most[2])


def fitting_die(rows, told, ranks):
    """A die with the told leads by face over the dice with the test rows, None if there is none."""
    found = shares_outcome(rows, told, [1] * ranks)
    return None if found.total == (0, 1) else in_integers(found.unknowns)[0]


def fraction_row(row, name):
    """A row of fractions, as a list."""
    if not is_row(row):
        raise BadNumber(name)
    return [fraction(entry, name) for entry in row]


def lead_range(tests, leads, die):
    """The Span over the die for these leads by face, None if no row of shares has them."""
    dice = Cup.checked(tests)
    told = fraction_row(leads, "leads")
    entries = die_of(die)
    check_lengths(dice, told)
    check_lengths(dice[0], entries)
    return span_for(rows_of(dice), told, rows_of([entries])[0])


def die_between(tests, leads, die, value):
    """A die with these leads by face and the lead by face value over the die, None if there is none."""
    dice = Cup.checked(tests)
    told = fraction_row(leads, "leads")
    entries = die_of(die)
    worth = fraction(value, "value")
    check_lengths(dice, told)
    check_lengths(dice[0], entries)
    return fitting_die(rows_of(dice + (entries,)), told + [worth], len(entries))


def barring_weights(rows, told):
    """Integers, one for each row, by which the told leads by face lie beyond all ranks, None if there are none.

    Each weight is bounded by 1 in size. So what is found depends on the rows alone, and has no more digits
    than they ask for, whatever fractions are told.
    """
    sums, divisor = in_integers(told)
    bounded = [list(column) + [-entry for entry in column] + [-1, 1] for column in zip(*rows)]
    for number in range(len(rows)):
        unit = [1 if place == number else 0 for place in range(len(rows))]
        bounded.append(unit + unit + [0, 0])
    aims = list(sums) + [-entry for entry in sums] + [-divisor, divisor]
    found = greatest_sum(aims, bounded, [0] * len(rows[0]) + [1] * len(rows))
    if found.total == (0, 1):
        return None
    parts, _ = in_integers(found.unknowns)
    return tuple([up - down for up, down in zip(parts, parts[len(rows):2 * len(rows)])])


def no_shares(tests, leads):
    """Integers (w, c) that show that no row of shares has these leads by face, None if some row has them."""
    dice = Cup.checked(tests)
    told = fraction_row(leads, "leads")
    check_lengths(dice, told)
    rows = rows_of(dice)
    weights = barring_weights(rows, told)
    if weights is None:
        return None
    return weights, max([paired_sum(weights, column) for column in zip(*rows)])
