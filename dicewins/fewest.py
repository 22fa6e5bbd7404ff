"""Cups that throw a multiple of a table on few ranks."""

from math import gcd, isqrt, lcm

from dicewins.amounts import common_divisor, shortened
from dicewins.cups import Cup
from dicewins.linear import row_rank
from dicewins.planes import planes_of, table_rank
from dicewins.tables import check_table
from dicewins.weighing import Mix, check_lengths, entries_of, mix_or_below, worth_row


class Thrown:
    """A cup that throws a multiple of a table, and what shows how few ranks there can be."""

    def __init__(self, cup, times, reason):
        self.cup = cup
        self.times = times
        self.reason = reason


def fewest_ranks(table):
    """The fewest ranks of a cup that throws a multiple of the table."""
    rows = check_table(table)
    if not any([any(row) for row in rows]):
        return 1
    return table_rank(rows) + (2 if isinstance(mix_or_below(rows), Mix) else 0)


def is_face_row(rows, row):
    """True if the row is a sum of fraction multiples of the rows of the table, so its worth, up to signs."""
    return row_rank(list(rows) + [row]) == row_rank(rows)


def level_rows(rows, row, anchor):
    """The leads of the dice over one another, times row[anchor], for a row of face numbers.

    Each die is less so much of the anchor die that it has no faces left.
    """
    held = rows[anchor]
    found = []
    for lead_row, mine, here in zip(rows, held, row):
        found.append([row[anchor] * entry + mine * there - here * other
                      for entry, other, there in zip(lead_row, held, row)])
    return found


def slanted(pairs, ranks):
    """Integers for the ranks, made of one pair (u, v) for each plane.

    Two such rows u, v and u', v' lead over one another by ranks * ranks times the sum of u * v' - v * u';
    each one has no faces and ties with the die that has one face at each rank.
    """
    found = [-2 * sum([first + place * second for place, (first, second) in enumerate(pairs, 1)])] * ranks
    for place, (first, second) in enumerate(pairs, 1):
        for rank in range(2 * place):
            found[rank] += ranks * second
        found[2 * place - 1] -= ranks * first
        found[2 * place] -= ranks * first
    return alternated(found)


def alternated(row):
    """The row with each second entry negated."""
    return [-entry if place & 1 else entry for place, entry in enumerate(row)]


def square_part(rows):
    """An integer whose square divides all entries: the greatest one if what divides them all is a square."""
    divisor = common_divisor([entry for row in rows for entry in row])
    root = isqrt(divisor)
    return root if root > 0 and root * root == divisor else 1


def pairs_for(planes, many):
    """For each die its pairs (u, v), one for each plane, as integers over one divisor, and that divisor."""
    divisor = 1
    for _, _, over, under in planes:
        divisor = lcm(divisor, over, under)
    found = []
    for die in range(many):
        found.append([(first[die] * (divisor // over), second[die] * (divisor // under))
                      for first, second, over, under in planes])
    return found, divisor


def least_height(rests, leans, row, scale):
    """The least integer of at least 1 that, times the entries of row * scale, is above what is taken off."""
    height = 1
    for rest, lean, count in zip(rests, leans, row):
        most = max([abs(entry) for entry in rest]) + abs(lean)
        height = max(height, -(-most // (count * scale)))
    return height


def cup_of_planes(rows, row, anchor):
    """A Cup with face numbers in the ratio of row, and the number of times that it throws the table rows.

    Without an anchor it has two ranks more than the rank of the table, and all dice tie with the die that
    has one face at each rank. With an anchor, the number of a die, the row is a face row of the table, and
    there are as many ranks as the rank.
    """
    root = square_part(rows)
    left = [[entry // (root * root) for entry in line] for line in rows]
    depth = 1 if anchor is None else row[anchor]
    lean = [0] * len(rows) if anchor is None else left[anchor]
    planes = planes_of(left if anchor is None else level_rows(left, row, anchor), depth)
    pairs, divisor = pairs_for(planes, len(rows))
    ranks = 2 * len(planes) + 2
    scale = ranks * divisor * depth
    rests = [[entry * depth for entry in slanted(part, ranks)] for part in pairs]
    height = least_height(rests, [entry * divisor for entry in lean], row, scale)
    # the higher all dice stand, the less of the lean is needed: it is taken once over the height
    dice = []
    for rest, worth, count in zip(rests, lean, row):
        leaning = alternated([worth * divisor] * ranks)
        dice.append([height * (height * count * scale + entry) + more for entry, more in zip(rest, leaning)])
    times = scale * height
    dice = [[entry * root for entry in die] for die in dice]
    shared = gcd(times, common_divisor([entry for die in dice for entry in die]))
    cup = Cup([[entry // shared for entry in die] for die in dice])
    return cup, (times // shared) ** 2


def thrown_by(rows, row, anchor):
    """The Thrown of cup_of_planes."""
    cup, times = cup_of_planes(rows, row, anchor)
    return Thrown(cup, times, mix_or_below(rows))


def least_place(row):
    """The first place of the least entry."""
    return row.index(min(row))


def thrown(table):
    """A Thrown whose cup has as many ranks as the fewest ranks of the table."""
    rows = check_table(table)
    ones = (1,) * len(rows)
    if not any([any(row) for row in rows]):
        return Thrown(Cup([(1,)] * len(rows)), 1, mix_or_below(rows))
    reason = mix_or_below(rows)
    if isinstance(reason, Mix):
        return thrown_by(rows, ones, None)
    if is_face_row(rows, ones):
        return thrown_by(rows, ones, 0)
    row = shortened(worth_row(rows, reason.entries))
    return thrown_by(rows, row, least_place(row))


def table_and_row(table, row):
    """The table and the row of integers of at least 1, of one length."""
    rows = check_table(table)
    counts = entries_of(row, 1)
    check_lengths(rows, counts)
    return rows, counts


def face_row(table, row):
    """True if the row is a face row of the table."""
    rows, counts = table_and_row(table, row)
    return is_face_row(rows, counts)


def thrown_with(table, row):
    """A Thrown on as many ranks as the rank of the table with face numbers in the ratio of row, or None."""
    rows, counts = table_and_row(table, row)
    if not is_face_row(rows, counts):
        return None
    short = shortened(counts)
    return thrown_by(rows, short, least_place(short))


def thrown_wide(table, row):
    """A Thrown on two ranks more than the rank, with face numbers in the ratio of row and equal mean ranks."""
    rows, counts = table_and_row(table, row)
    return thrown_by(rows, shortened(counts), None)
