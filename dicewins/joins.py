"""The least share of the ends that a row of relations joins."""

from dicewins.chains import chance_row
from dicewins.ends import last_chance, last_ring
from dicewins.fractions_of import taken_off, told_chance


def least_join(shares):
    """The least join of a row of told chances."""
    return taken_off(1, last_chance(chance_row(shares, "shares", 1)))


def join_of_two(first, second):
    """The least join of two told chances."""
    return least_join([told_chance(first, "first"), told_chance(second, "second")])


def joining_cup(shares):
    """A Cup whose web has shares of at least these and joins as few ends as can be."""
    return last_ring(chance_row(shares, "shares", 1))
