"""Points 92, 93 and 101: walks, joined pairs and rounds."""

import itertools
import types
import unittest
from fractions import Fraction

from dicewins.chains import rest_of
from dicewins.errors import BadNumber, TooMany
from dicewins.walks import has_walk, is_barred, joined, joined_share, reached, round_of, rounds, walk_of
from dicewins.webs import Web
from helping import NO_INTS, NO_ROWS, DiceTest, check_number, chooser_of, is_lowest, worth_of
from test_webs import SMALL, THREE, great_web, rounds_told, some_web


def walks_told(web):
    """All walks from lot 0 to the last lot, by their words, ascending."""
    found = []
    for row in itertools.product(*[range(len(lot)) for lot in web.lots]):
        if all((row[k], row[k + 1]) in web.relations[k] for k in range(web.size - 1)):
            found.append(row)
    return found


def reached_told(web, first, points):
    """The points that are reached lot by lot, by their words."""
    rows = [tuple(sorted(points))]
    for step in range(web.size - 1):
        pairs = web.relations[(first + step) % web.size]
        rows.append(tuple(sorted({q for p, q in pairs if p in rows[-1]})))
    return tuple(rows)


class WalkTest(DiceTest):
    def test_all(self):
        chooser = chooser_of(511)
        seen = []
        for _ in range(600):
            web = some_web(chooser)
            walks, told = walks_told(web), rounds_told(web)
            self.assertIs(has_walk(web), bool(walks))
            self.same(walk_of(web), walks[0] if walks else None)
            pairs = sorted({(row[0], row[-1]) for row in walks})
            self.same(joined(web), pairs)
            share = joined_share(web)
            self.assertTrue(is_lowest(share))
            top = sum(web.lots[0][a] * web.lots[-1][b] for a, b in pairs)
            self.assertEqual(worth_of(share), Fraction(top, sum(web.lots[0]) * sum(web.lots[-1])))
            self.same(list(rounds(web)), told)
            self.same(round_of(web), told[0] if told else None)
            self.assertIs(is_barred(web), not told)
            self.assertEqual(any((b, a) in web.relations[-1] for a, b in pairs), bool(told))
            if worth_of(share) + worth_of(web.share(web.size - 1)) > 1:
                self.assertTrue(told)
            seen.append((bool(walks), bool(told)))
        for kind in ((False, False), (True, False), (True, True)):
            self.assertGreater(seen.count(kind), 40)

    def test_reached(self):
        chooser = chooser_of(512)
        for _ in range(300):
            web = some_web(chooser)
            first = chooser.randrange(web.size)
            points = chooser.sample(range(len(web.lots[first])), chooser.randint(0, len(web.lots[first])))
            self.same(reached(web, first, points), reached_told(web, first, points))
            self.same(reached(web, first, ()), ((),) * web.size)

    def test_parts_reached(self):
        # from all points of lot 0 at least the rest of the chain is reached
        chooser = chooser_of(513)
        checked = 0
        for _ in range(300):
            web = some_web(chooser)
            rows = reached(web, 0, list(range(len(web.lots[0]))))
            for place, points in enumerate(rows):
                rest = rest_of(web.losses()[:place])
                if rest is not None:
                    weight = sum(web.lots[place][point] for point in points)
                    self.assertGreaterEqual(Fraction(weight, sum(web.lots[place])), worth_of(rest))
                    checked += place > 0
            if rest_of(web.losses()[:-1]) is not None:
                self.assertTrue(has_walk(web))
        self.assertGreater(checked, 100)

    def test_known_ones(self):
        self.same([list(rounds(THREE)), joined(THREE), reached(THREE, 2, [0])], [[(1, 0, 1)], [(1, 0), (1, 1)], ((0,), (0,), ())])
        self.same([list(rounds(SMALL)), round_of(SMALL), is_barred(SMALL)], [[], None, True])
        self.same([walk_of(SMALL), has_walk(SMALL), joined(SMALL), joined_share(SMALL)], [(0, 0), True, [(0, 0), (1, 1)], (1, 2)])
        empty = Web([[1], [1], [1]], [[], [(0, 0)], [(0, 0)]])
        self.same([walk_of(empty), has_walk(empty), joined(empty), joined_share(empty)], [None, False, [], (0, 1)])
        self.same([round_of(empty), reached(empty, 0, [0]), reached(empty, 1, (0,))], [None, ((0,), (), ()), ((0,), (0,), (0,))])
        full = Web([[1], [1]], [[(0, 0)], [(0, 0)]])
        self.same([list(rounds(full)), joined_share(full), walk_of(full)], [[(0, 0)], (1, 1), (0, 0)])

    def test_rounds_one_after_another(self):
        found = rounds(Web([[1], [1, 1]], [[(0, 0), (0, 1)], [(0, 0), (1, 0)]]))
        self.assertIsInstance(found, types.GeneratorType)
        self.same([next(found), next(found), next(found, None)], [(0, 0), (0, 1), None])

    def test_many_choices(self):
        def full(sizes):
            lots = [[1] * size for size in sizes]
            after = sizes[1:] + sizes[:1]
            return Web(lots, [list(itertools.product(range(a), range(b))) for a, b in zip(sizes, after)])

        just = full([8, 5, 10, 10])
        self.assertEqual(len(self.ends_soon(2, list, rounds(just))), 4000)
        more = full([9, 9, 10, 5])
        # the error is raised when the first round is asked for
        found = rounds(more)
        self.fails(TooMany, {"name": "rounds"}, lambda: next(found))
        # even if there are none
        barred = Web([[1] * 12] * 4, [[]] * 4)
        self.fails(TooMany, {"name": "rounds"}, lambda: list(rounds(barred)))
        self.same([round_of(barred), round_of(more), is_barred(barred)], [None, (0, 0, 0, 0), True])

    def test_greatest(self):
        chooser = chooser_of(514)
        for barred in (False, True):
            for _ in range(5):
                web = great_web(chooser, barred=barred)
                found = self.ends_soon(1, round_of, web)
                self.assertIs(self.ends_soon(1, is_barred, web), found is None)
                if barred:
                    self.assertIsNone(found)
                else:
                    self.assertTrue(all(web.related(k, found[k], found[(k + 1) % 8]) for k in range(8)))
                walk = self.ends_soon(1, walk_of, web)
                self.assertIs(self.ends_soon(1, has_walk, web), walk is not None)
                for call in (joined, joined_share):
                    self.ends_soon(1, call, web)
                self.same(self.ends_soon(1, reached, web, 3, [5, 0, 11]), reached_told(web, 3, [5, 0, 11]))
        # many walks and no round at all
        pairs = list(itertools.product(range(12), repeat=2))
        halves = [(p, q) for p, q in pairs if p % 2 == q % 2]
        crossed = [(p, q) for p, q in pairs if p % 2 != q % 2]
        web = Web([[1] * 12] * 8, [halves] * 7 + [crossed])
        self.same([self.ends_soon(1, round_of, web), walk_of(web)], [None, (0,) * 8])

    def test_errors(self):
        check_number(self, "first", (-1, 3), lambda value: reached(THREE, value, None))
        for value in NO_ROWS + ((0, 0), [1, 0, 1]):
            self.fails(BadNumber, {"name": "points"}, reached, THREE, 0, value)
        for value in NO_INTS + (-1, 2):
            self.fails(BadNumber, {"name": "points"}, reached, THREE, 0, [0, value])
        self.fails(BadNumber, {"name": "points"}, reached, THREE, 1, (1,))


if __name__ == "__main__":
    unittest.main()
