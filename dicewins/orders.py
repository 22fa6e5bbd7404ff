"""The order in which the dice of a cup stand where they are thrown often enough."""

from dicewins.cups import Cup
from dicewins.dice import running_counts, two_dice


def last_gap(mine, others):
    """The last unlike gap of two dice, told by their running counts, None if they are like."""
    for gap in reversed(range(len(mine))):
        if others[-1] * mine[gap] != mine[-1] * others[gap]:
            return gap
    return None


def first_gap(mine, others):
    """The first unlike gap of two dice, told by their running counts, None if they are like."""
    for gap, (count, other) in enumerate(zip(mine, others)):
        if others[-1] * count != mine[-1] * other:
            return gap
    return None


def counts_of_two(a, b):
    """The running counts of two dice on the same ranks."""
    one, two = two_dice(a, b)
    return running_counts(one), running_counts(two)


def last_unlike(a, b):
    """The last unlike gap of two dice, None if they are like."""
    mine, others = counts_of_two(a, b)
    return last_gap(mine, others)


def first_unlike(a, b):
    """The first unlike gap of two dice, None if they are like."""
    mine, others = counts_of_two(a, b)
    return first_gap(mine, others)


def rounded_product(one, two, bits):
    """The product of two numbers, each told by integers (under, over) of which it is between the 2^bits-th parts."""
    return (one[0] * two[0]) >> bits, -((-one[1] * two[1]) >> bits)


def rounded_count(low, high, bits):
    """The least count k with 2 * low^k < high^k, for 0 < low < high, None if so many bits do not tell it.

    The powers of high / low are only told by numbers just under and just over them: the count may be great,
    and the powers themselves then have far more digits.
    """
    two = 2 << bits
    squares = [((high << bits) // low, -((-high << bits) // low))]
    while squares[-1][1] <= two:
        squares.append(rounded_product(squares[-1], squares[-1], bits))
    if squares[-1][0] <= two:
        return None
    count = 0
    reached = (1 << bits, 1 << bits)
    for place in reversed(range(len(squares) - 1)):
        step = rounded_product(reached, squares[place], bits)
        if step[1] <= two:
            reached = step
            count += 1 << place
        elif step[0] <= two:
            return None
    return count + 1


def least_count(low, high):
    """The least count k with 2 * low^k < high^k, for 0 <= low < high."""
    if low == 0:
        return 1
    bits = 64
    found = rounded_count(low, high, bits)
    while found is None:
        bits = 2 * bits
        found = rounded_count(low, high, bits)
    return found


def settled_count_of(mine, others):
    """The count from which two dice are settled, told by their running counts."""
    gap = last_gap(mine, others)
    if gap is None:
        return 1
    numbers = (others[-1] * mine[gap], mine[-1] * others[gap])
    return least_count(min(numbers), max(numbers))


def settled_from(a, b):
    """The count from which two dice are settled."""
    mine, others = counts_of_two(a, b)
    return settled_count_of(mine, others)


def is_ahead(mine, others):
    """True if the first of two dice, told by their running counts, has the lesser number at their last unlike gap."""
    gap = last_gap(mine, others)
    return gap is not None and others[-1] * mine[gap] < mine[-1] * others[gap]


def last_order(cup):
    """The sets of like dice of the cup, each set ahead of those that its dice beat in the end."""
    rows = [running_counts(die) for die in Cup.checked(cup)]
    # like dice, and no others, have equally many dice ahead of them
    places = [len([other for other in rows if is_ahead(other, row)]) for row in rows]
    found = []
    for place in sorted(set(places)):
        found.append(tuple([number for number, other in enumerate(places) if other == place]))
    return found


def settled_count(cup):
    """The count from which the cup is settled."""
    rows = [running_counts(die) for die in Cup.checked(cup)]
    found = 1
    for number, row in enumerate(rows):
        for other in rows[:number]:
            found = max(found, settled_count_of(row, other))
    return found
