"""Points 91, 96, 97 and 102: webs, their shares, cuts and webs of cups."""

import itertools
import unittest
from fractions import Fraction

from dicewins.cups import Cup
from dicewins.errors import BadCup, BadWeb
from dicewins.many import many_cup
from dicewins.throws import chance
from dicewins.walks import is_barred, rounds
from dicewins.webs import Web, web_turned
from helping import NO_INTS, NO_ROWS, DiceTest, check_number, chooser_of, is_lowest, some_dice, worth_of
from test_cups import check_cup
from test_paths import CUP
from test_rings import round_of

SMALL = Web([[1, 2], [1, 1]], [[(0, 0), (1, 1)], [(0, 1), (1, 0)]])
THREE = Web([[1, 1], [1], [2, 1]], [[(1, 0)], [(0, 0), (0, 1)], [(0, 0), (1, 1)]])
GREAT = 10 ** 28
NO_LOTS = NO_ROWS + ((), [], (0,), (1, 0), [-1])


def some_web(chooser, most_lots=4, most_points=4, most_weight=5):
    """A web, at times with an empty relation or one with all pairs."""
    many = chooser.randint(2, most_lots)
    lots = [[chooser.randint(1, most_weight) for _ in range(chooser.randint(1, most_points))] for _ in range(many)]
    relations = []
    for number in range(many):
        pairs = list(itertools.product(range(len(lots[number])), range(len(lots[(number + 1) % many]))))
        chooser.shuffle(pairs)
        part = chooser.choice((0, len(pairs), chooser.randint(0, len(pairs)), chooser.randint(0, len(pairs))))
        relations.append(pairs[:part])
    return Web(lots, relations)


def share_told(web, number):
    """The share, by its words."""
    here, there = web.lots[number], web.lots[(number + 1) % web.size]
    return Fraction(sum(here[p] * there[q] for p, q in web.relations[number]), sum(here) * sum(there))


def shares_told(web):
    """All shares."""
    return [share_told(web, number) for number in range(web.size)]


def rounds_told(web):
    """All rounds, by their words."""
    found = []
    for row in itertools.product(*[range(len(lot)) for lot in web.lots]):
        if all((row[k], row[(k + 1) % web.size]) in web.relations[k] for k in range(web.size)):
            found.append(row)
    return found


def great_web(chooser, size=8, points=12, barred=False):
    """A web of the greatest size; a barred one is that of a cup."""
    if barred:
        dice = [[0] * (size * points) for _ in range(size)]
        ranks = list(range(size * points))
        chooser.shuffle(ranks)
        for place, rank in enumerate(ranks):
            dice[place % size][rank] = chooser.randint(1, GREAT)
        return Web.of_cup(dice)
    lots = [[chooser.randint(1, GREAT) for _ in range(points)] for _ in range(size)]
    pairs = list(itertools.product(range(points), repeat=2))
    return Web(lots, [chooser.sample(pairs, chooser.randint(60, 144)) for _ in range(size)])


class WebTest(DiceTest):
    def test_attributes(self):
        self.same(SMALL.lots, ((1, 2), (1, 1)))
        self.same(SMALL.relations, (((0, 0), (1, 1)), ((0, 1), (1, 0))))
        self.same([SMALL.size, THREE.size], [2, 3])
        web = Web(([3], (4, GREAT)), ([[0, 1], (0, 0)], ()))
        self.same([web.lots, web.relations], [((3,), (4, GREAT)), (((0, 0), (0, 1)), ())])

    def test_two_lots(self):
        # relation 0 goes from lot 0 to lot 1, relation 1 the other way
        web = Web([[1], [1, 1, 2]], [[(0, 2)], [(1, 0), (0, 0)]])
        self.same([web.share(0), web.share(1), web.losses()], [(1, 2), (1, 2), ((1, 2), (1, 2))])
        self.same([web.related(0, 0, 2), web.related(0, 0, 1), web.related(1, 1, 0), web.related(1, 2, 0)],
                  [True, False, True, False])

    def test_keeps_nothing_that_was_passed(self):
        lots, relations = [[1, 2], [3]], [[[0, 0]], [[0, 1]]]
        web = Web(lots, relations)
        lots[0][0] = 9
        relations[0][0][0] = 1
        relations[1].append([0, 0])
        self.same([web.lots, web.relations], [((1, 2), (3,)), (((0, 0),), ((0, 1),))])

    def test_shares(self):
        chooser = chooser_of(501)
        for _ in range(300):
            web = some_web(chooser)
            told = shares_told(web)
            self.assertTrue(all(is_lowest(web.share(number)) for number in range(web.size)))
            self.assertEqual([worth_of(web.share(number)) for number in range(web.size)], told)
            self.assertEqual([worth_of(web.loss(number)) for number in range(web.size)], [1 - share for share in told])
            self.same(web.losses(), tuple(web.loss(number) for number in range(web.size)))
            for number in range(web.size):
                for p, q in itertools.product(range(len(web.lots[number])), range(len(web.lots[(number + 1) % web.size]))):
                    self.assertIs(web.related(number, p, q), (p, q) in web.relations[number])

    def test_empty_and_full(self):
        web = Web([[5], [GREAT, 1]], [[], [(0, 0), (1, 0)]])
        self.same([web.share(0), web.share(1), web.loss(0), web.loss(1)], [(0, 1), (1, 1), (1, 1), (0, 1)])

    def test_equal(self):
        same = Web(((1, 2), [1, 1]), (((1, 1), (0, 0)), [[1, 0], [0, 1]]))
        self.assertIs(SMALL == same, True)
        self.assertIs(SMALL != same, False)
        for other in (
            Web([[1, 3], [1, 1]], SMALL.relations), Web(SMALL.lots, [[(0, 0)], [(0, 1), (1, 0)]]), THREE,
            SMALL.lots, (SMALL.lots, SMALL.relations), None, 5, CUP,
        ):
            self.assertIs(SMALL == other, False)

    def test_wrong_lots(self):
        for value in NO_ROWS + ((), [], ([1],), [(1, 2)]):
            self.fails(BadWeb, {"lot": -1}, Web, value, None)
            self.fails(BadWeb, {"lot": -1}, Web.drawn_row, value, None)
        for value in NO_LOTS:
            self.fails(BadWeb, {"lot": 1}, Web, [[1], value, None], None)
            self.fails(BadWeb, {"lot": 0}, Web, (value, None), None)
            self.fails(BadWeb, {"lot": 2}, Web.drawn_row, [[1], (2,), value], 7)
        for value in NO_INTS + (0, -1):
            self.fails(BadWeb, {"lot": 1}, Web, [[1], [1, value]], None)

    def test_wrong_relations(self):
        lots = [[1, 1], [1], [1, 1, 1]]
        for value in NO_ROWS + ((), [[]], [[], []], [[], [], [], []]):
            self.fails(BadWeb, {"lot": -1}, Web, lots, value)
        for value in NO_ROWS + ([(0,)], [(0, 0, 0)], ["00"], [(0, 0), [0, 0]], [(1, 0), (0, 0), (1, 0)], [{0: 0, 1: 0}]):
            self.fails(BadWeb, {"lot": 3}, Web, lots, [value, [], []])
            self.fails(BadWeb, {"lot": 3}, Web, lots, (value, None, None))
        for value in NO_INTS + (-1,):
            self.fails(BadWeb, {"lot": 4}, Web, lots, [[], [(value, 0)], []])
            self.fails(BadWeb, {"lot": 5}, Web, lots, [[], [], [(0, 0), (0, value)]])
        for number, pair in ((0, (2, 0)), (0, (0, 1)), (1, (1, 0)), (1, (0, 3)), (2, (3, 0)), (2, (0, 2))):
            relations = [[], [], []]
            relations[number] = [pair]
            self.fails(BadWeb, {"lot": 3 + number}, Web, lots, relations)
        self.fails(BadWeb, {"lot": 3}, Web, [[1], [1], [1]], [5, 5, 5])

    def test_wrong_numbers(self):
        for call in (SMALL.share, SMALL.loss):
            check_number(self, "number", (-1, 2), call)
        check_number(self, "number", (-1, 3), lambda value: THREE.related(value, None, None))
        check_number(self, "point", (-1, 1), lambda value: THREE.related(1, value, None))
        check_number(self, "other", (-1, 2), lambda value: THREE.related(1, 0, value))
        check_number(self, "other", (-1, 2), lambda value: THREE.related(2, 1, value))


class CutTest(DiceTest):
    def test_cuts(self):
        chooser = chooser_of(502)
        for _ in range(300):
            web = some_web(chooser)
            kept = [sorted(chooser.sample(range(len(lot)), chooser.randint(1, len(lot)))) for lot in web.lots]
            weights = [[chooser.randint(1, 9) for _ in points] for points in kept]
            found = web.cut(kept, weights)
            self.assertIs(type(found), Web)
            self.assertEqual(found.lots, tuple(tuple(row) for row in weights))
            for number in range(web.size):
                here, there = kept[number], kept[(number + 1) % web.size]
                told = [(here.index(p), there.index(q)) for p, q in web.relations[number] if p in here and q in there]
                self.same(found.relations[number], tuple(sorted(told)))
            if is_barred(web):
                self.assertTrue(is_barred(found))

    def test_known_one(self):
        found = THREE.cut([[1], (0,), [0, 1]], ([4], [5], (GREAT, 7)))
        self.same(found.lots, ((4,), (5,), (GREAT, 7)))
        self.same(found.relations, (((0, 0),), ((0, 0), (0, 1)), ((1, 0),)))
        self.assertEqual(THREE.cut([[0, 1], [0], [0, 1]], THREE.lots), THREE)

    def test_errors(self):
        kept, weights = [[0, 1], [0], [1]], [[1, 1], [1], [1]]
        for value in NO_ROWS + ((), [[0], [0]], [[0], [0], [0], [0]]):
            self.fails(BadWeb, {"lot": -1}, THREE.cut, value, None)
            self.fails(BadWeb, {"lot": -1}, THREE.cut, kept, value)
        for value in NO_ROWS + ((), [], [1, 0], [0, 0], [0, 1, 2], [-1], [2], [True], (0, 1.0)):
            self.fails(BadWeb, {"lot": 0}, THREE.cut, [value, None, None], None)
            self.fails(BadWeb, {"lot": 2}, THREE.cut, [[0], [0], value], None)
        for value in NO_LOTS + ([1], [1, 1, 1], [1, True], [1, 2.0]):
            self.fails(BadWeb, {"lot": 0}, THREE.cut, kept, (value, None, None))
        for value in NO_LOTS + ([1, 1],):
            self.fails(BadWeb, {"lot": 1}, THREE.cut, kept, [weights[0], value, 7])
        # kept is looked at whole ahead of weights
        self.fails(BadWeb, {"lot": 2}, THREE.cut, [[0], [0], []], [[], [], []])


class MadeWebTest(DiceTest):
    def test_of_cup(self):
        chooser = chooser_of(503)
        for _ in range(200):
            cup = Cup(some_dice(chooser, chooser.randint(2, 5), chooser.randint(1, 6), 3))
            web = Web.of_cup(cup)
            self.assertIs(type(web), Web)
            self.assertEqual(web.lots, tuple(tuple(entry for entry in die if entry) for die in cup))
            self.assertEqual([worth_of(web.share(number)) for number in range(web.size)], round_of(cup, chance))
            self.assertEqual(Web.of_cup(list(cup)), web)
            self.assertTrue(is_barred(web))
            # so is the web of many throws
            self.assertTrue(is_barred(Web.of_cup(many_cup(cup, chooser.randint(2, 6)))))

    def test_known_one(self):
        web = Web.of_cup([[1, 0, 1], [0, 2, 0]])
        self.same([web.lots, web.relations, web.share(0)], [((1, 1), (2,)), (((1, 0),), ((0, 0),)), (1, 2)])

    def test_of_cup_errors(self):
        check_cup(self, Web.of_cup)
        self.fails(BadCup, {"place": -1}, Web.of_cup, [(1, 0)])

    def test_drawn_row(self):
        web = Web.drawn_row([[1, 2], [1], (3, 1)], [[(1, 0)], ([0, 1],)])
        self.assertIs(type(web), Web)
        self.same(web.relations, (((1, 0),), ((0, 1),), ((0, 0), (0, 1), (1, 0), (1, 1))))
        self.same([web.lots, web.share(2)], [((1, 2), (1,), (3, 1)), (1, 1)])
        self.same(Web.drawn_row([[1], [1, 1]], [[]]).relations, ((), ((0, 0), (1, 0))))

    def test_drawn_row_errors(self):
        lots = [[1, 1], [1], [1, 1, 1]]
        for value in NO_ROWS + ((), [[]], [[], [], []]):
            self.fails(BadWeb, {"lot": -1}, Web.drawn_row, lots, value)
        self.fails(BadWeb, {"lot": 3}, Web.drawn_row, lots, [[(0, 1)], None])
        self.fails(BadWeb, {"lot": 4}, Web.drawn_row, lots, [[(0, 0)], [(0, 3)]])

    def test_turned(self):
        chooser = chooser_of(504)
        for _ in range(200):
            web = some_web(chooser)
            found = web_turned(web)
            self.assertIs(type(found), Web)
            self.assertEqual(found.lots, web.lots[::-1])
            for number, pairs in enumerate(web.relations[:-1]):
                self.same(found.relations[web.size - 2 - number], tuple(sorted((q, p) for p, q in pairs)))
            self.same(found.relations[-1], tuple(sorted((q, p) for p, q in web.relations[-1])))
            self.assertEqual(web_turned(found), web)
            self.assertEqual(sorted(rounds(found)), sorted(row[::-1] for row in rounds(web)))
            self.same(found.losses(), web.losses()[:-1][::-1] + web.losses()[-1:])
            self.assertIs(is_barred(found), is_barred(web))

    def test_greatest(self):
        chooser = chooser_of(505)
        web = great_web(chooser)
        self.ends_soon(1, web.losses)
        self.assertEqual(self.ends_soon(1, web_turned, self.ends_soon(1, web_turned, web)), web)
        kept = [list(range(0, 12, 2))] * 8
        self.ends_soon(1, web.cut, kept, [[GREAT] * 6] * 8)
        self.assertEqual(self.ends_soon(1, great_web, chooser, 8, 12, True).size, 8)


if __name__ == "__main__":
    unittest.main()
