"""What the leads over some tests tell of an unseen die."""

from dicewins.amounts import check_int, is_int, is_row, set_of
from dicewins.cups import Cup
from dicewins.dice import die_of, one_faced
from dicewins.errors import BadNumber, TooMany
from dicewins.linear import kernel_rows, row_rank
from dicewins.throws import lead, rank_leads
from dicewins.weighing import check_lengths


def rows_of(dice):
    """The test rows of dice that are known to be some, as a list of tuples."""
    return [tuple(rank_leads(die)) for die in dice]


def test_rows(tests):
    """The test rows of the tests."""
    return rows_of(Cup.checked(tests))


def tests_and_die(tests, die):
    """The dice of the tests and the die, on the same ranks."""
    dice = Cup.checked(tests)
    entries = die_of(die)
    check_lengths(dice[0], entries)
    return dice, entries


def tellings(tests, die):
    """The leads of the die over the tests."""
    dice, entries = tests_and_die(tests, die)
    return tuple([lead(entries, test) for test in dice])


def told_rows(dice):
    """The test rows of the dice and the row of ones."""
    return rows_of(dice) + [(1,) * len(dice[0])]


def tell_all(tests):
    """True if the tests tell all."""
    dice = Cup.checked(tests)
    return row_rank(told_rows(dice)) == len(dice[0])


def both_parts(row):
    """The dice of the entries above 0 and of those below 0, for a row with entries of both sorts."""
    return tuple([max(0, entry) for entry in row]), tuple([max(0, -entry) for entry in row])


def unlike_pair(tests):
    """Two dice with equal face numbers and equal tellings that are not like, None if the tests tell all."""
    dice = Cup.checked(tests)
    kernel = kernel_rows(told_rows(dice), len(dice[0]))
    return both_parts(kernel[0]) if kernel else None


def one_faced_tests(ranks, tested):
    """The Cup of the dice with one face at the tested ranks."""
    check_int(ranks, "ranks", 1)
    return Cup([one_faced(ranks, rank, 1) for rank in set_of(tested, ranks)])


def fewest_tests(ranks):
    """The least number of tests of a cup that tells all on so many ranks."""
    return max(1, check_int(ranks, "ranks", 1) - 1)


def numbers_and_tested(ranks, number, tested):
    """The tested ranks, for a right number of faces."""
    check_int(ranks, "ranks", 1)
    check_int(number, "number", 1)
    return set_of(tested, ranks)


def untested_ranks(ranks, chosen):
    """The ranks that are not among the chosen ones, ascending."""
    held = {rank: True for rank in chosen}
    return [rank for rank in range(ranks) if rank not in held]


def integer_row(row, name):
    """A row of integers."""
    if not is_row(row) or not all([is_int(entry) for entry in row]):
        raise BadNumber(name)
    return row


def counts_from(start, number, leads):
    """The numbers of faces below one gap after another, from a number on, for the leads at the ranks between.

    A lead is the number of faces above the rank less that below it, so both its gaps make up the rest.
    """
    found = [start]
    for worth in leads:
        found.append(number - worth - found[-1])
    return found


def die_told(ranks, number, tested, leads):
    """The die with so many faces and these leads over the one-faced tests, None if there is none."""
    chosen = numbers_and_tested(ranks, number, tested)
    told = integer_row(leads, "leads")
    check_lengths(chosen, told)
    untested = untested_ranks(ranks, chosen)
    if len(untested) > 1:
        raise TooMany("tested")
    place = untested[0] if untested else ranks
    low = counts_from(0, number, told[:place])
    high = counts_from(number, number, list(told[place:])[::-1])[::-1]
    if not untested and low[-1] != number:
        return None
    counts = low + high if untested else low
    found = tuple([over - under for under, over in zip(counts, counts[1:])])
    return found if min(found) >= 0 else None


def twin_ranks(ranks, number, tested):
    """The first two untested ranks, none between them, that are no farther apart than there are faces, or None."""
    untested = untested_ranks(ranks, numbers_and_tested(ranks, number, tested))
    for low, high in zip(untested, untested[1:]):
        if high - low <= number:
            return low, high
    return None


def tells_number(ranks, number, tested):
    """True if no two different dice with so many faces have equal leads over the one-faced tests."""
    return twin_ranks(ranks, number, tested) is None


def twins(ranks, number, tested):
    """Two different dice with so many faces and equal leads over the one-faced tests, None if there are none."""
    pair = twin_ranks(ranks, number, tested)
    if pair is None:
        return None
    low, high = pair
    row = [0] * ranks
    for rank in range(low, high + 1):
        size = 1 if rank in (low, high) else 2
        row[rank] = -size if rank - low & 1 else size
    first, second = both_parts(row)
    # both dice have so many faces more at one rank, which change nothing between them
    more = one_faced(ranks, low, number - (high - low)) if number > high - low else (0,) * ranks
    return tuple([a + b for a, b in zip(first, more)]), tuple([a + b for a, b in zip(second, more)])
