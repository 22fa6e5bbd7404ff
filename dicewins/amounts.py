"""Integers and rows of integers: their kinds, their bounds and their short forms."""

from math import gcd

from dicewins.errors import BadNumber, BadSet, BadWeights


def is_int(value):
    """True if the value is an integer that is neither True nor False."""
    return isinstance(value, int) and not isinstance(value, bool)


def is_row(value):
    """True if the value is a list or a tuple."""
    return isinstance(value, (list, tuple))


def check_int(value, name, low):
    """The value, if it is an integer of at least low."""
    if not is_int(value) or value < low:
        raise BadNumber(name)
    return value


def check_between(value, name, low, high):
    """The value, if it is an integer from low to high."""
    if not is_int(value) or not low <= value <= high:
        raise BadNumber(name)
    return value


def common_divisor(row):
    """The greatest common divisor of a row of integers, 0 if there is none above 0."""
    found = 0
    for entry in row:
        found = gcd(found, entry)
    return found


def shortened(row):
    """The row divided by its greatest common divisor, as a tuple."""
    divisor = common_divisor(row)
    if divisor < 2:
        return tuple(row)
    return tuple([entry // divisor for entry in row])


def set_of(row, many):
    """The set of dice of a row of different numbers below many, ascending."""
    if not is_row(row):
        raise BadSet(-1)
    seen = {}
    for place, number in enumerate(row):
        if not is_int(number) or not 0 <= number < many or number in seen:
            raise BadSet(place)
        seen[number] = True
    return tuple(sorted(row))


def picked_numbers(row, many):
    """The numbers of a set of dice that needs one at least, in the order of the row."""
    if not set_of(row, many):
        raise BadSet(-1)
    return tuple(row)


def weights_of(row, many, low):
    """A row of many integers of at least low, as a tuple."""
    if not is_row(row) or not row or len(row) != many:
        raise BadWeights(-1)
    for place, entry in enumerate(row):
        if not is_int(entry) or entry < low:
            raise BadWeights(place)
    return tuple(row)
