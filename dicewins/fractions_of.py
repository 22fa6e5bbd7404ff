"""Fractions: pairs (p, q) of integers in lowest terms with q >= 1."""

from math import gcd, lcm

from dicewins.amounts import is_int, is_row
from dicewins.errors import BadNumber


def lowest(top, bottom):
    """The fraction top / bottom in lowest terms, for integers with a bottom that is not 0."""
    shared = gcd(top, bottom) if bottom > 0 else -gcd(top, bottom)
    return (top // shared, bottom // shared)


def fraction(value, name):
    """The fraction that an integer or a pair of integers stands for."""
    if is_int(value):
        return (value, 1)
    if not is_row(value) or len(value) != 2:
        raise BadNumber(name)
    top, bottom = value
    if not is_int(top) or not is_int(bottom) or bottom < 1:
        raise BadNumber(name)
    return lowest(top, bottom)


def told_chance(value, name):
    """The fraction, if it is from 0 to 1."""
    top, bottom = fraction(value, name)
    if not 0 <= top <= bottom:
        raise BadNumber(name)
    return (top, bottom)


def both_fractions(first, second):
    """The two fractions as one row of four integers."""
    return fraction(first, "first") + fraction(second, "second")


def added(first, second):
    """The sum of two fractions."""
    top, bottom, other_top, other_bottom = both_fractions(first, second)
    return lowest(top * other_bottom + other_top * bottom, bottom * other_bottom)


def taken_off(first, second):
    """The first fraction less the second one."""
    top, bottom, other_top, other_bottom = both_fractions(first, second)
    return lowest(top * other_bottom - other_top * bottom, bottom * other_bottom)


def multiplied(first, second):
    """The product of two fractions."""
    top, bottom, other_top, other_bottom = both_fractions(first, second)
    return lowest(top * other_top, bottom * other_bottom)


def divided(first, second):
    """The first fraction divided by the second one."""
    top, bottom, other_top, other_bottom = both_fractions(first, second)
    if other_top == 0:
        raise BadNumber("divisor")
    return lowest(top * other_bottom, other_top * bottom)


def is_less(first, second):
    """True if the first fraction is below the second one."""
    top, bottom, other_top, other_bottom = both_fractions(first, second)
    return top * other_bottom < other_top * bottom


def is_equal(first, second):
    """True if the two fractions have one worth."""
    return fraction(first, "first") == fraction(second, "second")


def in_integers(row):
    """The fractions of a row as integers over one divisor: the integers, and the least such divisor."""
    divisor = 1
    for _, bottom in row:
        divisor = lcm(divisor, bottom)
    return tuple([top * (divisor // bottom) for top, bottom in row]), divisor
