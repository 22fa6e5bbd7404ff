"""One die, and what is asked of one die or of two without throwing them."""

from dicewins.amounts import check_between, check_int, is_int, is_row, shortened, weights_of
from dicewins.errors import BadDie, BadWeights, OtherSize


def wrong_place(row):
    """The place that BadDie tells of the row, None if the row is a die."""
    if not is_row(row) or not row:
        return -1
    for place, entry in enumerate(row):
        if not is_int(entry) or entry < 0:
            return place
    if max(row) == 0:
        return -1
    return None


def die_of(row):
    """The die as a tuple."""
    place = wrong_place(row)
    if place is not None:
        raise BadDie(place)
    return tuple(row)


def two_dice(first, second):
    """Two dice on one number of ranks, as a pair of tuples."""
    one = die_of(first)
    two = die_of(second)
    if len(one) != len(two):
        raise OtherSize(len(one), len(two))
    return one, two


def running_counts(die):
    """The numbers of faces below the gaps, for a tuple that is known to be a die."""
    counts = [0]
    for entry in die:
        counts.append(counts[-1] + entry)
    return counts


def faces(die):
    """The number of faces."""
    return sum(die_of(die))


def below(die, gap):
    """The number of faces at ranks less than the gap."""
    checked = die_of(die)
    return sum(checked[:check_between(gap, "gap", 0, len(checked))])


def belows(die):
    """The numbers of faces below gap 0 to gap h."""
    return tuple(running_counts(die_of(die)))


def held_ranks(die):
    """The ranks with faces, ascending."""
    return tuple([rank for rank, entry in enumerate(die_of(die)) if entry])


def top_rank(die):
    """The highest rank with a face."""
    return held_ranks(die)[-1]


def bottom_rank(die):
    """The lowest rank with a face."""
    return held_ranks(die)[0]


def is_one_faced(die):
    """True if all faces are at one rank."""
    return len(held_ranks(die)) == 1


def is_two_ranked(die):
    """True if the faces are at two ranks at most."""
    return len(held_ranks(die)) <= 2


def one_faced(ranks, rank, count):
    """The die with count faces at the rank and none at the others."""
    check_int(ranks, "ranks", 1)
    check_between(rank, "rank", 0, ranks - 1)
    check_int(count, "count", 1)
    return (0,) * rank + (count,) + (0,) * (ranks - rank - 1)


def is_like(first, second):
    """True if the two dice are like."""
    one, two = two_dice(first, second)
    return shortened(one) == shortened(two)


def stands_over(first, second):
    """True if the first die stands over the second one."""
    one, two = two_dice(first, second)
    mine = running_counts(one)
    others = running_counts(two)
    return all([others[-1] * low <= mine[-1] * high for low, high in zip(mine, others)])


def short_die(die):
    """The die divided by the greatest common divisor of its entries."""
    return shortened(die_of(die))


def mixed_die(weights, *dice):
    """The die of a mix: the sum of the dice, each multiplied by its weight."""
    told = weights_of(weights, len(dice), 0)
    if max(told) == 0:
        raise BadWeights(-1)
    parts = [die_of(die) for die in dice]
    for part in parts:
        if len(part) != len(parts[0]):
            raise OtherSize(len(parts[0]), len(part))
    return tuple([sum([weight * entry for weight, entry in zip(told, entries)]) for entries in zip(*parts)])
