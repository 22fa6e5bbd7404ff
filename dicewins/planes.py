"""Skew tables as sums of planes."""

from dicewins.amounts import check_int
from dicewins.errors import BadNumber
from dicewins.fractions_of import lowest
from dicewins.tables import check_table, pairs_below


def greatest_place(rows):
    """The first place (i, j), i < j, of an entry of the greatest size, None if all entries are 0."""
    best = None
    most = 0
    for i, j in pairs_below(len(rows)):
        if abs(rows[i][j]) > most:
            best = (i, j)
            most = abs(rows[i][j])
    return best


def without_plane(rows, divisor, first, second):
    """What is left of the table rows / divisor without the plane of two dice, as integers over their entry.

    The integers stay small: each one is the pfaffian of the old dice, these two and the two dice of its place.
    """
    upper = rows[first]
    lower = rows[second]
    pivot = upper[second]
    found = []
    for row, high, low in zip(rows, upper, lower):
        products = [high * other - low * entry for entry, other in zip(upper, lower)]
        found.append([(pivot * entry - product) // divisor for entry, product in zip(row, products)])
    return found


def planes_of(rows, divisor):
    """The planes of the table rows / divisor as tuples (u, v, p, q), which stand for the pairs (u / p, v / q)."""
    found = []
    place = greatest_place(rows)
    while place is not None:
        first, second = place
        pivot = rows[first][second]
        found.append((rows[first], rows[second], pivot, divisor))
        rows = without_plane(rows, divisor, first, second)
        divisor = pivot
        place = greatest_place(rows)
    return found


def table_rank(table):
    """The rank of the table."""
    return 2 * len(planes_of(check_table(table), 1))


def terms_of(table):
    """As few pairs (u, v) of rows of fractions as there can be whose planes have the table as their sum."""
    found = []
    for first, second, over, under in planes_of(check_table(table), 1):
        upper = tuple([lowest(entry, over) for entry in first])
        lower = tuple([lowest(entry, under) for entry in second])
        found.append((upper, lower))
    return found


def inverse_signs(ranks):
    """The table of inverse signs for an even number of ranks."""
    check_int(ranks, "ranks", 2)
    if ranks & 1:
        raise BadNumber("ranks")
    rows = [[0] * ranks for _ in range(ranks)]
    for low, high in pairs_below(ranks):
        sign = 1 if high - low & 1 else -1
        rows[high][low] = sign
        rows[low][high] = -sign
    return tuple([tuple(row) for row in rows])
