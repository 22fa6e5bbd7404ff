"""Two dice with told numbers of faces and a told lead."""

from dicewins.amounts import check_between, check_int
from dicewins.cups import Cup


def lead_ranks(first, second, number):
    """The ranks of two dice with these numbers of faces and this lead, as pairs of entries, lowest first.

    Two faces tie if number is not even or odd as first * second is; otherwise none do.
    """
    # a pair of faces that is won counts 2 here, and a tie 1
    worth = number + first * second
    tied = worth & 1
    high, some = divmod(worth // 2, second)
    middle = 1 if some + tied > 0 else 0
    # high faces win all pairs; the middle one wins some pairs and ties in tied of them
    pairs = [
        (first - high - middle, 0),
        (0, some),
        (middle, tied),
        (0, second - some - tied),
        (high, 0),
    ]
    return [pair for pair in pairs if pair != (0, 0)]


def cup_of_ranks(ranks):
    """The Cup with these ranks, each told by its entries in the order of the dice."""
    return Cup(list(zip(*ranks)))


def check_numbers(first, second, number):
    """Nothing, if some two dice with these numbers of faces have this lead."""
    check_int(first, "first", 1)
    check_int(second, "second", 1)
    check_between(number, "number", -first * second, first * second)


def with_lead(first, second, number):
    """A Cup of two dice with these numbers of faces and this lead of die 0."""
    check_numbers(first, second, number)
    return cup_of_ranks(lead_ranks(first, second, number))


def deck_with_lead(first, second, number):
    """A deck of two dice with these numbers of faces and this lead of die 0, None if there is none."""
    check_numbers(first, second, number)
    if (first * second + number) & 1:
        return None
    return cup_of_ranks(lead_ranks(first, second, number))
