"""Cups whose leads are told for one throw and for the greatest of two throws at once."""

from math import isqrt

from dicewins.amounts import check_int, is_int, is_row
from dicewins.errors import BadNumber, TooMany
from dicewins.making import two_rank
from dicewins.many import many_cup
from dicewins.reaching import cup_of_ranks
from dicewins.tables import both_tables, pairs_below, table_of


def four_levels(thickness, gap, sign):
    """Four levels (thickness, sign) with a gap in their middle.

    They add nothing to the lead, and sign * 8 * thickness^3 * (2 * thickness + gap) to the lead for two
    throws, whatever the running count below them.
    """
    middle = [(gap, 0)] if gap else []
    return [(thickness, sign), (thickness, -sign)] + middle + [(thickness, -sign), (thickness, sign)]


def stretch_levels(worth):
    """The levels (thickness, sign) of a stretch for a multiple of 8, from any running count.

    Each four levels are the thickest that do not add too much, and leave less than thickness^3 * 8.
    """
    sign = 1 if worth > 0 else -1
    left = abs(worth) // 8
    found = []
    while left > 1:
        thickness = isqrt(isqrt(left // 2))
        cube = thickness * thickness * thickness
        gap = left // cube - 2 * thickness
        found.extend(four_levels(thickness, gap, sign))
        left -= cube * (2 * thickness + gap)
    if left == 1:
        # four levels alone add 16 at least: 24 less 16
        found.extend(four_levels(1, 1, sign) + four_levels(1, 0, -sign))
    return found


def stretch_of(worth, start):
    """A stretch for the worth from the running count start."""
    if not is_int(worth) or worth % 8 != 0:
        raise BadNumber("worth")
    check_int(start, "start", 0)
    # four levels together add the same from any start
    return stretch_levels(worth)


def level_ranks(many, thickness, groups):
    """The ranks of a level of dice."""
    return [[thickness if number in group else 0 for number in range(many)] for group in groups]


def stretch_ranks(many, groups, worth):
    """The ranks that add the worth to the leads for two throws of the dice of a group over those of earlier ones."""
    orders = {1: groups, -1: groups[::-1], 0: [list(range(many))]}
    found = []
    for thickness, sign in stretch_levels(worth):
        found.extend(level_ranks(many, thickness, orders[sign]))
    return found


def is_level(many, level):
    """True if it is a level for so many dice."""
    if not is_row(level) or len(level) != 2 or not is_int(level[0]) or level[0] < 1 or not is_row(level[1]):
        return False
    numbers = []
    for group in level[1]:
        if not is_row(group) or not group or not all([is_int(number) for number in group]):
            return False
        numbers.extend(group)
    return sorted(numbers) == list(range(many))


def cup_of_levels(many, levels):
    """The Cup of many dice that the levels make, the first one lowest."""
    check_int(many, "many", 1)
    if not is_row(levels) or not levels or not all([is_level(many, level) for level in levels]):
        raise BadNumber("levels")
    ranks = []
    for thickness, groups in levels:
        ranks.extend(level_ranks(many, thickness, groups))
    return cup_of_ranks(ranks)


def lacking_leads(ranks, rows, count):
    """What the leads for so many throws of the cup with the ranks lack of those of the table, as rows."""
    found = table_of(many_cup(cup_of_ranks(ranks), count))
    return [[told - entry for told, entry in zip(row, others)] for row, others in zip(rows, found)]


def round_pair(many, first, second, pairs):
    """Ranks of two dice with two faces each, with one face of each other die below them and one above.

    So no lead of another die changes, and its leads for two throws change by multiples of 8.
    """
    others = [[0 if number in (first, second) else 1 for number in range(many)]] if many > 2 else []
    return others + [two_rank(many, first, second, pair) for pair in pairs] + others


def pair_ranks(ranks, rows, more, first, second):
    """Ranks on which the lead of two dice becomes the told one, and that for two throws up to a multiple of 8."""
    many = len(rows)
    found = list(ranks)
    # the first of the two that are passed to round_pair loses by its ranks
    low, high = (second, first) if rows[first][second] > 0 else (first, second)
    if more[low][high] - rows[low][high] & 2:
        found += round_pair(many, low, high, [(1, 0), (1, 2)])
    lack = lacking_leads(found, rows, 1)[low][high]
    if lacking_leads(found, more, 2)[low][high] - lack & 4:
        pairs = [(2, 0), (0, 2)] if lack < 0 else [(0, 2), (2, 0)]
        found += round_pair(many, low, high, pairs)
    lack = lacking_leads(found, rows, 1)[low][high]
    pairs = [(1, 0), (0, 1), (1, 1)] if lack < 0 else [(0, 1), (1, 0), (1, 1)]
    for _ in range(abs(lack)):
        found += round_pair(many, low, high, pairs)
    return found


def group_orders(lack):
    """Groups of dice and the worths of stretches for them that add up to what is lacking, for two or three dice."""
    if len(lack) == 2:
        return [([[0], [1]], lack[1][0])]
    # in order all three pairs gain, with two dice in one group the other two pairs do
    low, across, high = lack[1][0], lack[2][0], lack[2][1]
    return [
        ([[0], [1], [2]], low + high - across),
        ([[0], [1, 2]], across - high),
        ([[0, 1], [2]], across - low),
    ]


def check_small(rows, name):
    """Nothing, if the table is small enough for double_cup."""
    if len(rows) > 3 or any([abs(entry) > 6 for row in rows for entry in row]):
        raise TooMany(name)


def double_cup(table, other):
    """A Cup whose table is the one and whose table for two throws is the other, None if there is none."""
    rows, more = both_tables(table, other)
    check_small(rows, "table")
    check_small(more, "other")
    many = len(rows)
    if any([more[i][j] - rows[i][j] & 1 for i, j in pairs_below(many)]):
        return None
    ranks = [[1] * many]
    for first, second in pairs_below(many):
        ranks = pair_ranks(ranks, rows, more, first, second)
    if many > 1:
        for groups, worth in group_orders(lacking_leads(ranks, more, 2)):
            ranks = ranks + stretch_ranks(many, groups, worth)
    return cup_of_ranks(ranks)


def turning_ring(many):
    """A Cup of three or four dice that is a ring for one throw and the ring backwards for two throws."""
    if not is_int(many) or not 3 <= many <= 4:
        raise BadNumber("many")
    downwards = list(range(many))[::-1]
    turned = [downwards[place:] + downwards[:place] for place in range(many)]
    # few thick levels of the ring below more thin ones of the ring backwards: those weigh less for one
    # throw, and more for two
    levels = [(2, [[number] for number in order]) for order in turned]
    levels = levels + 3 * [(1, [[number] for number in order[::-1]]) for order in turned]
    return cup_of_levels(many, levels)
