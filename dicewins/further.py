"""One more die for a cup: of a kind, with told leads, between two dice, closing a ring."""

from dicewins.amounts import check_between, check_int, is_row, shortened
from dicewins.cups import Cup
from dicewins.errors import BadCup, BadWeights
from dicewins.fractions_of import in_integers
from dicewins.paths import Barred, Found, gain_row, kind_of
from dicewins.programs import greatest_sum
from dicewins.throws import beats
from dicewins.weighing import check_lengths, entries_of


def die_at_gaps(counts):
    """The further die with these numbers of faces at the gaps."""
    found = []
    for count in counts:
        found.extend((count, 0))
    return tuple(found[:-1])


def short_bar(dice, weights):
    """The Barred of the weights in short form."""
    return Barred(2 * len(dice[0]) + 1, shortened(weights))


def answer_of(dice, kind):
    """A Found with a die of the kind or a Barred with a bar against it."""
    beating, losing, tying = kind
    # one row for each bound on a lead: at least 1, at most -1, at most 0 and at least 0
    signs = [(number, -1) for number in beating] + [(number, 1) for number in losing]
    bounds = [-1] * len(signs) + [0] * (2 * len(tying))
    for number in tying:
        signs.extend([(number, 1), (number, -1)])
    rows = [[sign * gain for gain in gain_row(dice[number])] for number, sign in signs]
    found = greatest_sum([0] * len(rows[0]), rows, bounds)
    if found.word == "reached":
        counts = shortened(in_integers(found.unknowns)[0])
        return Found(die_at_gaps(counts))
    weights = [0] * len(dice)
    for (number, sign), weight in zip(signs, in_integers(found.weights)[0]):
        weights[number] += weight if number in losing else -sign * weight
    return short_bar(dice, weights)


def further(cup, *, beating=(), losing=(), tying=()):
    """A Found with a die of the kind or a Barred with a bar against it."""
    dice = Cup.checked(cup)
    return answer_of(dice, kind_of(beating, losing, tying, len(dice)))


def told_answer(dice, rows, sums, number):
    """A Found with numbers of faces at the gaps that have, up to one factor, the sums with the rows.

    Else a Barred, whose weights are those of the first rows, one for each die.
    """
    turned = [[-entry for entry in row] for row in rows]
    found = greatest_sum([0] * len(rows[0]), rows + turned, list(sums) + [-told for told in sums])
    if found.word == "reached":
        return Found(die_at_gaps(in_integers(found.unknowns)[0]), number)
    weights, _ = in_integers(found.weights)
    return short_bar(dice, [weights[len(rows) + place] - weights[place] for place in range(len(dice))])


def plain_entries(row):
    """A row of at least one integer that is no Weighing, as a tuple."""
    if not is_row(row):
        raise BadWeights(-1)
    return entries_of(row)


def leads_row(cup, row, number):
    """A Found with a die that has the told number of faces and the told leads, up to one factor, or a Barred."""
    dice = Cup.checked(cup)
    told = plain_entries(row)
    check_int(number, "number", 1)
    check_lengths(dice, told)
    rows = [gain_row(die) for die in dice]
    return told_answer(dice, rows + [[1] * len(rows[0])], told + (number,), number)


def free_answer(dice, told):
    """A Found with a die that has the told leads, up to one factor, or a Barred."""
    rows = [gain_row(die) for die in dice]
    if not any(told):
        return Found(die_at_gaps([1] + [0] * (len(rows[0]) - 2) + [1]))
    return told_answer(dice, rows, told, 1)


def leads_free(cup, row):
    """A Found with a die that has the told leads, up to one factor, or a Barred."""
    dice = Cup.checked(cup)
    told = plain_entries(row)
    check_lengths(dice, told)
    return free_answer(dice, told)


def die_between(dice, upper, lower):
    """A further die that loses to the upper die and beats the lower one, None if there is none."""
    if upper == lower:
        return None
    answer = answer_of(dice, ((lower,), (upper,), ()))
    return answer.die if isinstance(answer, Found) else None


def between(cup, upper, lower):
    """A further die that loses to the die upper and beats the die lower, None if there is none."""
    dice = Cup.checked(cup)
    check_between(upper, "upper", 0, len(dice) - 1)
    check_between(lower, "lower", 0, len(dice) - 1)
    return die_between(dice, upper, lower)


def closer(cup):
    """A further die that beats die 0 and loses to the last die, None if there is none."""
    dice = Cup.checked(cup)
    if len(dice) == 1:
        raise BadCup(-1)
    for number in range(len(dice) - 1):
        if not beats(dice[number], dice[number + 1]):
            raise BadCup(number)
    return die_between(dice, len(dice) - 1, 0)
