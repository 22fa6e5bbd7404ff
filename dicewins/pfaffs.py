"""Pfaffians, and the one best mix of an odd table."""

from dicewins.best import best_mix
from dicewins.errors import BadNumber, BadTable, BadWeights
from dicewins.tables import check_table
from dicewins.weighing import Mix


def pfaffian_of(rows, numbers):
    """The pfaffian of the table of the numbered dice alone."""
    if len(numbers) & 1:
        return 0
    if not numbers:
        return 1
    first = numbers[0]
    total = 0
    for place in range(1, len(numbers)):
        entry = rows[first][numbers[place]]
        if entry:
            part = entry * pfaffian_of(rows, numbers[1:place] + numbers[place + 1:])
            total += part if place & 1 else -part
    return total


def pfaffian(table):
    """The pfaffian of the table."""
    rows = check_table(table)
    return pfaffian_of(rows, list(range(len(rows))))


def left_out_row(table):
    """The pfaffians of the table without each of its dice, each second one negated."""
    rows = check_table(table)
    if not len(rows) & 1:
        raise BadNumber("dice")
    numbers = list(range(len(rows)))
    found = []
    for number in numbers:
        part = pfaffian_of(rows, numbers[:number] + numbers[number + 1:])
        found.append(-part if number & 1 else part)
    return tuple(found)


def odd_entry(weights, low, high):
    """The entry of the odd table of a mix at two dice, low < high."""
    if weights[low] and weights[high]:
        between = sum(weights[low + 1:high])
        return sum(weights[:low]) + sum(weights[high + 1:]) - between
    return -1 if weights[high] else 1


def odd_table_for(mix):
    """An odd table whose one best mix is like the mix."""
    weights = Mix(mix).short().entries
    odd = [weight for weight in weights if weight & 1]
    if len(odd) & 1 == 0 or any([weight and not weight & 1 for weight in weights]):
        raise BadWeights(-1)
    many = len(weights)
    rows = [[0] * many for _ in range(many)]
    for high in range(many):
        for low in range(high):
            entry = odd_entry(weights, low, high)
            rows[low][high] = entry
            rows[high][low] = -entry
    return tuple([tuple(row) for row in rows])


def odd_rows(table):
    """The table, if it is odd."""
    rows = check_table(table)
    for i, row in enumerate(rows):
        for j, entry in enumerate(row):
            if i != j and not entry & 1:
                raise BadTable(i * len(rows) + j)
    return rows


def odd_mix(table):
    """The one short best Mix of an odd table."""
    return best_mix(odd_rows(table))


def closed_path(rows, path, left):
    """The path led on through all dice that are left, each beating the next one and the last one the first.

    None if there is no such way.
    """
    beaten = rows[path[-1]]
    if not left:
        return path if beaten[path[0]] > 0 else None
    for number in left:
        if beaten[number] > 0:
            found = closed_path(rows, path + [number], [other for other in left if other != number])
            if found is not None:
                return found
    return None


def mix_ring(table):
    """The dice that the best mix of an odd table takes, in a ring; None if it takes one die alone."""
    rows = odd_rows(table)
    taken = list(best_mix(rows).taken_dice())
    if len(taken) == 1:
        return None
    return tuple(closed_path(rows, taken[:1], taken[1:]))
