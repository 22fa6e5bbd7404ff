"""Webs: lots of weighed points in a ring, and relations between each lot and the next one."""

from dicewins.amounts import check_between, is_int, is_row
from dicewins.cutting import ring_dice
from dicewins.errors import BadWeb
from dicewins.fractions_of import lowest, taken_off


def are_weights(row):
    """True if the row has integers of at least 1 alone, and one of them at least."""
    return is_row(row) and len(row) > 0 and all([is_int(entry) and entry >= 1 for entry in row])


def check_length(row, many):
    """Nothing, if it is a row of so many entries."""
    if not is_row(row) or len(row) != many:
        raise BadWeb(-1)


def lots_of(lots):
    """The lots as a tuple of tuples."""
    if not is_row(lots) or len(lots) < 2:
        raise BadWeb(-1)
    for number, lot in enumerate(lots):
        if not are_weights(lot):
            raise BadWeb(number)
    return tuple([tuple(lot) for lot in lots])


def is_pair(pair, many, others):
    """True if it is a pair of the number of one of many points and that of one of the others."""
    if not is_row(pair) or len(pair) != 2 or not is_int(pair[0]) or not is_int(pair[1]):
        return False
    return 0 <= pair[0] < many and 0 <= pair[1] < others


def is_relation(pairs, many, others):
    """True if it is a row of such pairs, none of them twice."""
    if not is_row(pairs) or not all([is_pair(pair, many, others) for pair in pairs]):
        return False
    return len(set([tuple(pair) for pair in pairs])) == len(pairs)


def relations_of(relations, lots):
    """The relations between the lots, as a tuple of tuples of pairs, ascending."""
    many = len(lots)
    check_length(relations, many)
    for number, pairs in enumerate(relations):
        if not is_relation(pairs, len(lots[number]), len(lots[(number + 1) % many])):
            raise BadWeb(many + number)
    return tuple([tuple(sorted([tuple(pair) for pair in pairs])) for pairs in relations])


def all_pairs(lot, other):
    """All pairs of a point of the one lot and a point of the other."""
    return [(point, there) for point in range(len(lot)) for there in range(len(other))]


def share_of(pairs, lot, other):
    """The part of the pairs of the two lots, by weight, that the given pairs are."""
    return lowest(sum([lot[point] * other[there] for point, there in pairs]), sum(lot) * sum(other))


def kept_points(kept, lots):
    """For each lot the row of its kept points."""
    check_length(kept, len(lots))
    for number, points in enumerate(kept):
        if not is_row(points) or not points or not all([is_int(point) for point in points]):
            raise BadWeb(number)
        ascending = all([point < other for point, other in zip(points, points[1:])])
        if not ascending or points[0] < 0 or points[-1] >= len(lots[number]):
            raise BadWeb(number)
    return kept


def kept_weights(weights, kept):
    """For each lot the new weights of its kept points."""
    check_length(weights, len(kept))
    for number, row in enumerate(weights):
        if not are_weights(row) or len(row) != len(kept[number]):
            raise BadWeb(number)
    return weights


class Web:
    """Lots of weighed points in a ring, with relations between each lot and the next one. It does not change."""

    def __init__(self, lots, relations):
        self.lots = lots_of(lots)
        self.relations = relations_of(relations, self.lots)
        self.size = len(self.lots)

    @classmethod
    def of_cup(cls, cup):
        """The web of a cup of two dice or more: a lot for each die, a point for each rank where it has faces."""
        dice = ring_dice(cup)
        held = [[rank for rank, entry in enumerate(die) if entry] for die in dice]
        relations = []
        for ranks, others in zip(held, held[1:] + held[:1]):
            relations.append([(point, there) for point, rank in enumerate(ranks)
                              for there, other in enumerate(others) if rank > other])
        return cls([[entry for entry in die if entry] for die in dice], relations)

    @classmethod
    def drawn_row(cls, lots, relations):
        """The web with the told relations but the last one, which holds all pairs."""
        told = lots_of(lots)
        check_length(relations, len(told) - 1)
        return cls(told, list(relations) + [all_pairs(told[-1], told[0])])

    def __eq__(self, other):
        return isinstance(other, Web) and self.lots == other.lots and self.relations == other.relations

    def share(self, number):
        """The share of the relation."""
        check_between(number, "number", 0, self.size - 1)
        return share_of(self.relations[number], self.lots[number], self.lots[(number + 1) % self.size])

    def loss(self, number):
        """The loss of the relation."""
        return taken_off(1, self.share(number))

    def losses(self):
        """The losses of all relations."""
        return tuple([self.loss(number) for number in range(self.size)])

    def related(self, number, point, other):
        """True if the point of the lot is related to the other point, one of the next lot."""
        check_between(number, "number", 0, self.size - 1)
        check_between(point, "point", 0, len(self.lots[number]) - 1)
        check_between(other, "other", 0, len(self.lots[(number + 1) % self.size]) - 1)
        return (point, other) in self.relations[number]

    def cut(self, kept, weights):
        """The web of the kept points with their new weights."""
        rows = kept_points(kept, self.lots)
        told = kept_weights(weights, rows)
        places = [{point: place for place, point in enumerate(points)} for points in rows]
        relations = []
        for pairs, here, there in zip(self.relations, places, places[1:] + places[:1]):
            left = [(point, other) for point, other in pairs if point in here and other in there]
            relations.append([(here[point], there[other]) for point, other in left])
        return Web(told, relations)


def web_turned(web):
    """The web read backwards."""
    backwards = [[(other, point) for point, other in pairs] for pairs in web.relations]
    return Web(web.lots[::-1], backwards[:-1][::-1] + backwards[-1:])
