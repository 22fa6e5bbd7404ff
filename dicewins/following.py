"""Which leads of an unseen die follow from its leads over some tests."""

from dicewins.linear import kernel_rows, solution
from dicewins.telling import both_parts, rows_of, tests_and_die, told_rows
from dicewins.throws import paired_sum


def follow_weights(tests, die):
    """Fractions (w, c) by which the lead over the die follows from those over the tests, None if it does not."""
    dice, entries = tests_and_die(tests, die)
    rows = told_rows(dice)
    found = solution(list(zip(*rows)), rows_of([entries])[0])
    return None if found is None else (found[:-1], found[-1])


def follows_from(tests, die):
    """True if the lead over the die follows from the tests."""
    return follow_weights(tests, die) is not None


def split_pair(tests, die):
    """Two dice with equal face numbers, equal tellings and different leads over the die, None if it follows."""
    dice, entries = tests_and_die(tests, die)
    row = rows_of([entries])[0]
    for found in kernel_rows(told_rows(dice), len(entries)):
        if paired_sum(found, row) != 0:
            return both_parts(found)
    return None
