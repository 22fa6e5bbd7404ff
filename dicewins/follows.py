"""Which leads of further dice follow from others, and free cups."""

from dicewins.amounts import check_between, set_of, shortened
from dicewins.cups import Cup
from dicewins.errors import BadSet
from dicewins.further import answer_of, free_answer
from dicewins.linear import kernel_rows
from dicewins.paths import Barred, gain_row
from dicewins.weighing import Mix


def some_numbers(numbers, many):
    """The set of dice, which may not be empty."""
    chosen = set_of(numbers, many)
    if not chosen:
        raise BadSet(-1)
    return chosen


def short_part(weights, numbers):
    """The Mix in short form that takes the numbered dice alone, with these weights."""
    return Mix(shortened([weight if number in numbers else 0 for number, weight in enumerate(weights)]))


def lone_mix(many, die):
    """The Mix that takes the die alone."""
    return Mix([1 if number == die else 0 for number in range(many)])


def mix_above(dice, numbers, die):
    """A short Mix of the numbered dice alone that stands over the die, None if there is none."""
    if die in numbers:
        return lone_mix(len(dice), die)
    answer = answer_of(dice, (numbers, (die,), ()))
    return short_part(answer.weights, numbers) if isinstance(answer, Barred) else None


def mix_below(dice, die, numbers):
    """A short Mix of the numbered dice alone over which the die stands, None if there is none."""
    if die in numbers:
        return lone_mix(len(dice), die)
    answer = answer_of(dice, ((die,), numbers, ()))
    return short_part(answer.weights, numbers) if isinstance(answer, Barred) else None


def mix_over(cup, numbers, die):
    """A short Mix of dice of the set alone whose die stands over the die, None if there is none."""
    dice = Cup.checked(cup)
    chosen = some_numbers(numbers, len(dice))
    check_between(die, "die", 0, len(dice) - 1)
    return mix_above(dice, chosen, die)


def follows_beaten(cup, numbers, die):
    """True if each further die that beats all dice of the set beats the die."""
    return mix_over(cup, numbers, die) is not None


def mix_under(cup, die, numbers):
    """A short Mix of dice of the set alone over whose die the die stands, None if there is none."""
    dice = Cup.checked(cup)
    check_between(die, "die", 0, len(dice) - 1)
    chosen = some_numbers(numbers, len(dice))
    return mix_below(dice, die, chosen)


def beaten_among(cup, die, numbers):
    """True if each further die that beats the die beats some die of the set."""
    return mix_under(cup, die, numbers) is not None


def standing_weights(dice):
    """Integers, not all 0, whose sum times the gains is at most 0 at each gap, None if there are none."""
    rows = [gain_row(die) for die in dice]
    level = kernel_rows(list(zip(*rows)), len(dice))
    if level:
        return level[0]
    # put on one face at each gap, what is sought makes a die that ties with all dice; it bars such weights
    answer = free_answer(dice, tuple([-sum(row) for row in rows]))
    return answer.weights if isinstance(answer, Barred) else None


def is_free(cup):
    """True if the cup is free."""
    return standing_weights(Cup.checked(cup)) is None


def standing_pair(cup):
    """Two Mixes of different dice and equal face numbers, the first one over the second, None for a free cup."""
    weights = standing_weights(Cup.checked(cup))
    if weights is None:
        return None
    return Mix([max(0, weight) for weight in weights]), Mix([max(0, -weight) for weight in weights])
