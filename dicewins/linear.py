"""Rows of integers as linear equations, solved in fractions."""

from math import gcd, lcm

from dicewins.amounts import check_int, is_int, is_row, shortened
from dicewins.errors import BadWeights, OtherSize
from dicewins.fractions_of import lowest


def checked_row(row):
    """A row of integers, which may be empty, as a tuple."""
    if not is_row(row):
        raise BadWeights(-1)
    for place, entry in enumerate(row):
        if not is_int(entry):
            raise BadWeights(place)
    return tuple(row)


def checked_rows(rows):
    """A row of rows of integers of one length, as a list of tuples."""
    if not is_row(rows):
        raise BadWeights(-1)
    for number, row in enumerate(rows):
        if not is_row(row) or len(row) != len(rows[0]) or not all([is_int(entry) for entry in row]):
            raise BadWeights(number)
    return [tuple(row) for row in rows]


def cleared(row, pivot, column):
    """The row with so much of the pivot row taken off that it is 0 at the column, in short form.

    The short form keeps the integers as small as they can be.
    """
    if row[column] == 0:
        return row
    shared = gcd(row[column], pivot[column])
    up = pivot[column] // shared
    down = row[column] // shared
    return shortened([up * entry - down * other for entry, other in zip(row, pivot)])


def reduced(rows, width):
    """The rows solved for as many of the first width columns as can be.

    What is returned are pairs (column, row), in each of which the row is not 0 at its column while all
    other rows are, and the rows that are left, 0 at all these columns.
    """
    solved = []
    left = [shortened(row) for row in rows]
    for column in range(width):
        held = [number for number, row in enumerate(left) if row[column]]
        if held:
            pivot = left[held[0]]
            left = [cleared(row, pivot, column) for number, row in enumerate(left) if number != held[0]]
            solved = [(place, cleared(row, pivot, column)) for place, row in solved] + [(column, pivot)]
    return solved, left


def kernel_row(solved, free, width):
    """The row in the kernel that is 0 at all columns neither solved for nor free."""
    found = [0] * width
    scale = 1
    for column, row in solved:
        if row[free]:
            scale = lcm(scale, row[column])
    found[free] = scale
    for column, row in solved:
        found[column] = -row[free] * scale // row[column]
    return shortened(found)


def row_rank(rows):
    """The rank of the rows."""
    checked = checked_rows(rows)
    if not checked:
        return 0
    solved, _ = reduced(checked, len(checked[0]))
    return len(solved)


def kernel_rows(rows, width):
    """Rows of integers without a common divisor that span all rows with the sum 0 with each of the rows."""
    checked = checked_rows(rows)
    check_int(width, "width", 0)
    if checked and len(checked[0]) != width:
        raise OtherSize(len(checked[0]), width)
    solved, _ = reduced(checked, width)
    bound = [column for column, _ in solved]
    return [kernel_row(solved, free, width) for free in range(width) if free not in bound]


def solution(rows, right):
    """Fractions, one for each column, with the sums that right tells, None if there are none."""
    checked = checked_rows(rows)
    sums = checked_row(right)
    if len(checked) != len(sums):
        raise OtherSize(len(checked), len(sums))
    if not checked:
        return ()
    width = len(checked[0])
    solved, left = reduced([row + (told,) for row, told in zip(checked, sums)], width)
    if any([row[width] for row in left]):
        return None
    found = [(0, 1)] * width
    for column, row in solved:
        found[column] = lowest(row[width], row[column])
    return tuple(found)
