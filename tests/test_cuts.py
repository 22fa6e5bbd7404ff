"""Points 97 and 98: cuts of barred webs, and matched webs."""

import itertools
import unittest

from dicewins.cuts import crossings, lot_cut, two_pointed
from dicewins.walks import is_barred, rounds
from dicewins.webs import Web
from helping import DiceTest, check_number, chooser_of, digits_of
from test_webs import SMALL, THREE, great_web, shares_told, some_web


class CutTest(DiceTest):
    def check_cut(self, web, found):
        """A cut in the form that the method cut takes, by which no share falls."""
        kept, weights = found
        self.assertIs(type(found), tuple)
        for rows in found:
            self.assertIs(type(rows), tuple)
            self.assertEqual(len(rows), web.size)
            self.assertTrue(all(type(row) is tuple for row in rows))
        after = web.cut(kept, weights)
        self.assertTrue(is_barred(after))
        self.assertTrue(all(new >= old for new, old in zip(shares_told(after), shares_told(web), strict=True)))
        self.assertLessEqual(digits_of(*weights), 800)

    def check(self, web):
        """All cuts of a web; whether it is barred."""
        if not is_barred(web):
            self.assertIsNone(two_pointed(web))
            self.assertTrue(all(lot_cut(web, number) is None for number in range(web.size)))
            return False
        for number in range(web.size):
            kept, weights = lot_cut(web, number)
            self.check_cut(web, (kept, weights))
            for other, lot in enumerate(web.lots):
                if other == number:
                    self.assertLessEqual(len(kept[other]), 2)
                else:
                    self.same([kept[other], weights[other]], [tuple(range(len(lot))), lot])
        kept, weights = two_pointed(web)
        self.check_cut(web, (kept, weights))
        self.assertTrue(all(len(points) <= 2 for points in kept))
        return True

    def test_webs(self):
        chooser = chooser_of(531)
        seen = [self.check(some_web(chooser, 4, 6)) for _ in range(600)]
        self.assertGreater(min(seen.count(True), seen.count(False)), 100)

    def test_all_relations_of_a_lot(self):
        # three points of lot 0 against two lots of two points: all webs that are barred
        pairs = list(itertools.product(range(3), range(2)))
        back = list(itertools.product(range(2), range(3)))
        barred = 0
        for here in itertools.product((0, 1), repeat=6):
            for there in itertools.product((0, 1), repeat=6):
                one = [pair for pair, taken in zip(pairs, here) if taken]
                two = [pair for pair, taken in zip(back, there) if taken]
                web = Web([[1, 2, 1], [1, 3]], [one, two])
                if is_barred(web):
                    barred += 1
                    self.check_cut(web, lot_cut(web, 0))
        self.assertGreater(barred, 100)

    def test_known_ones(self):
        self.same(lot_cut(SMALL, 0), (((0, 1), (0, 1)), SMALL.lots))
        self.assertIsNone(lot_cut(THREE, 1))
        one = Web([[5], [7]], [[(0, 0)], []])
        self.same(two_pointed(one), (((0,), (0,)), ((5,), (7,))))

    def test_greatest(self):
        chooser = chooser_of(532)
        for _ in range(3):
            web = great_web(chooser, barred=True)
            self.check_cut(web, self.ends_soon(1, lot_cut, web, 5))
            self.check_cut(web, self.ends_soon(2, two_pointed, web))
        self.assertIsNone(self.ends_soon(1, two_pointed, great_web(chooser)))

    def test_errors(self):
        for web in (SMALL, THREE):
            check_number(self, "number", (-1, web.size), lambda value: lot_cut(web, value))


class MatchedTest(DiceTest):
    def test_matched(self):
        straight, crossed = [(0, 0), (1, 1)], [(1, 0), (0, 1)]
        for many in (2, 3, 4, 5):
            for row in itertools.product((0, 1), repeat=many):
                lots = [[1 + place, 10 ** 28] for place in range(many)]
                web = Web(lots, [crossed if entry else straight for entry in row])
                self.same(crossings(web), sum(row))
                found = list(rounds(web))
                self.assertIs(is_barred(web), sum(row) % 2 == 1)
                if sum(row) % 2 == 0:
                    self.assertEqual(len(found), 2)
                    self.assertTrue(all(a != b for a, b in zip(*found)))

    def test_not_matched(self):
        straight, crossed = [(0, 0), (1, 1)], [(0, 1), (1, 0)]
        for lots, relations in (
            ([[1], [1, 1]], [[(0, 0)], [(0, 0)]]),
            ([[1, 1], [1, 1, 1]], [straight, crossed]),
            ([[1, 1], [1, 1]], [straight, []]),
            ([[1, 1], [1, 1]], [[(0, 0)], crossed]),
            ([[1, 1], [1, 1]], [[(0, 0), (0, 1)], crossed]),
            ([[1, 1], [1, 1]], [straight, [(0, 0), (0, 1), (1, 0), (1, 1)]]),
            ([[1, 1], [1, 1]], [straight, [(0, 0), (0, 1), (1, 1)]]),
        ):
            self.assertIsNone(crossings(Web(lots, relations)))
        self.same(crossings(SMALL), 1)

    def test_eight_lots(self):
        crossed = [(0, 1), (1, 0)]
        web = Web([[1, 1]] * 8, [crossed] * 7 + [[(0, 0), (1, 1)]])
        self.same([self.ends_soon(1, crossings, web), is_barred(web)], [7, True])


if __name__ == "__main__":
    unittest.main()
