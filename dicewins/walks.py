"""Walks and rounds through a web."""

from dicewins.amounts import check_between, is_int, is_row
from dicewins.errors import BadNumber, TooMany
from dicewins.webs import share_of


def points_of_lot(points, many):
    """Different points of a lot of many points, ascending."""
    if not is_row(points) or not all([is_int(point) and 0 <= point < many for point in points]):
        raise BadNumber("points")
    if len(set(points)) < len(points):
        raise BadNumber("points")
    return tuple(sorted(points))


def points_behind(web, number, points):
    """The points of the next lot to which some of the points of the lot are related, ascending."""
    return tuple(sorted({other for point, other in web.relations[number] if point in points}))


def points_ahead(web, number, points):
    """The points of the lot that are related to some of the points of the next one, ascending."""
    return tuple(sorted({point for point, other in web.relations[number] if other in points}))


def reached_from(web, first, points):
    """For the lot and each one behind it round the ring, the points that are reached, as a list."""
    found = [points]
    for step in range(web.size - 1):
        found.append(points_behind(web, (first + step) % web.size, found[-1]))
    return found


def reached(web, first, points):
    """The points that are reached from the points of the lot first, lot by lot round the ring."""
    check_between(first, "first", 0, web.size - 1)
    return tuple(reached_from(web, first, points_of_lot(points, len(web.lots[first]))))


def leading_to(web, ends):
    """For each lot the points from which walks lead to one of the ends in the last lot."""
    found = [ends]
    for number in reversed(range(web.size - 1)):
        found.append(points_ahead(web, number, found[-1]))
    return found[::-1]


def least_walk(web, leading, start):
    """The least walk from the start in lot 0 through points that lead on."""
    walk = (start,)
    for number in range(web.size - 1):
        fitting = [point for point in points_behind(web, number, walk[-1:]) if point in leading[number + 1]]
        walk = walk + (fitting[0],)
    return walk


def walk_of(web):
    """The least walk from lot 0 to the last lot, None if there is none."""
    leading = leading_to(web, tuple(range(len(web.lots[-1]))))
    return least_walk(web, leading, leading[0][0]) if leading[0] else None


def has_walk(web):
    """True if there is a walk from lot 0 to the last lot."""
    return walk_of(web) is not None


def joined(web):
    """The joined pairs, ascending."""
    found = []
    for point in range(len(web.lots[0])):
        found.extend([(point, other) for other in reached_from(web, 0, (point,))[-1]])
    return found


def joined_share(web):
    """The share of the joined pairs."""
    return share_of(joined(web), web.lots[0], web.lots[-1])


def rounds(web):
    """All rounds, ascending."""
    many = 1
    for lot in web.lots:
        many *= len(lot)
    if many > 4000:
        raise TooMany("rounds")
    walks = [(point,) for point in range(len(web.lots[0]))]
    for number in range(web.size - 1):
        walks = [walk + (other,) for walk in walks for other in points_behind(web, number, walk[-1:])]
    for walk in walks:
        if (walk[-1], walk[0]) in web.relations[-1]:
            yield walk


def round_of(web):
    """The least round, None if the web is barred."""
    for point in range(len(web.lots[0])):
        leading = leading_to(web, points_ahead(web, web.size - 1, (point,)))
        if point in leading[0]:
            return least_walk(web, leading, point)
    return None


def is_barred(web):
    """True if the web has no round."""
    return round_of(web) is None
