"""Lots of a barred web cut to two points, with no share made less."""

from dicewins.amounts import check_between, shortened
from dicewins.walks import is_barred


def excess_of(web, number):
    """For each point of the lot by how much it wins and loses more than the mean, each up to one factor.

    A point wins the weight of the points of the next lot to which it is related, and it loses the weight of
    the points of the lot ahead that are related to it. The more there is of both, the greater the shares.
    """
    lot = web.lots[number]
    won = [0] * len(lot)
    lost = [0] * len(lot)
    for point, other in web.relations[number]:
        won[point] += web.lots[(number + 1) % web.size][other]
    for other, point in web.relations[number - 1]:
        lost[point] += web.lots[number - 1][other]
    count = sum(lot)
    over = sum([weight * part for weight, part in zip(lot, won)])
    under = sum([weight * part for weight, part in zip(lot, lost)])
    return [(count * part - over, count * other - under) for part, other in zip(won, lost)]


def cut_lot(web, number):
    """At most two points of the lot and new weights for them, with which no share of the web falls."""
    lot = web.lots[number]
    if len(lot) <= 2:
        return tuple(range(len(lot))), lot
    excess = excess_of(web, number)
    for point, (over, under) in enumerate(excess):
        if over >= 0 and under >= 0:
            return (point,), (1,)
    return cut_pair(excess)


def cut_pair(excess):
    """Two points and weights for them that win just the mean together and lose the mean at least.

    Some two points on the upper side of all points do so, as the mean is among all points and none of
    them wins and loses the mean at least by itself.
    """
    high = [(point, over, under) for point, (over, under) in enumerate(excess) if over > 0]
    low = [(point, over, under) for point, (over, under) in enumerate(excess) if over < 0]
    for point, over, under in high:
        for other, lack, more in low:
            if over * more >= lack * under:
                pairs = sorted([(point, -lack), (other, over)])
                return tuple([number for number, _ in pairs]), shortened([weight for _, weight in pairs])
    return None


def lot_cut(web, number):
    """The kept points and weights that cut this lot of a barred web, None if the web is not barred."""
    check_between(number, "number", 0, web.size - 1)
    if not is_barred(web):
        return None
    points, weights = cut_lot(web, number)
    kept = tuple([tuple(range(len(lot))) for lot in web.lots])
    return with_entry(kept, number, points), with_entry(web.lots, number, weights)


def with_entry(rows, number, row):
    """The tuple of rows with one of them replaced."""
    return rows[:number] + (row,) + rows[number + 1:]


def two_pointed(web):
    """The kept points and weights that cut all lots of a barred web, None if the web is not barred."""
    if not is_barred(web):
        return None
    kept = []
    left = web
    for number in range(web.size):
        # the lots behind this one are as they were, so the points of this one have their old numbers
        points, weights = lot_cut(left, number)
        kept.append(points[number])
        left = left.cut(points, weights)
    return tuple(kept), left.lots


def crossings(web):
    """How many relations of a matched web cross, None if the web is not matched."""
    straight = ((0, 0), (1, 1))
    crossed = ((0, 1), (1, 0))
    if any([len(lot) != 2 for lot in web.lots]):
        return None
    if any([pairs not in (straight, crossed) for pairs in web.relations]):
        return None
    return web.relations.count(crossed)
