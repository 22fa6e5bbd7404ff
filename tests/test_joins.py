"""Points 99, 100, 103 and 104: joins."""

import itertools
import unittest
from fractions import Fraction

from dicewins.cups import Cup
from dicewins.ends import last_chance, last_ring
from dicewins.errors import BadNumber
from dicewins.fractions_of import added
from dicewins.joins import join_of_two, joining_cup, least_join
from dicewins.throws import chance, half_chance
from dicewins.walks import joined_share
from dicewins.webs import Web
from helping import DiceTest, chooser_of, digits_of, is_lowest, some_dice, worth_of
from test_chains import NO_CHANCES, check_losses, fractions_for, passed, told_place, told_rests
from test_webs import great_web, shares_told, some_web


def join_told(shares):
    """The least join, by its words, and the place of the least product, None if the chain closes."""
    losses = [1 - share for share in shares]
    if told_place(losses) is not None:
        return Fraction(0), None
    products = []
    for place in range(len(losses) + 1):
        behind = told_rests(losses[place:])[-1]
        ahead = told_rests(losses[:place][::-1])[-1]
        products.append(behind * ahead)
    return min(products), products.index(min(products))


def join_told_of_two(x, y):
    """The least join of two chances as point 100 tells it."""
    if x + y <= 1:
        return Fraction(0)
    return min(1 - (1 - y) / x, x * y, 1 - (1 - x) / y)


class JoinTest(DiceTest):
    def check(self, shares):
        """The least join of the shares and the cup that reaches it; the place of the least product."""
        found = least_join(passed(shares))
        told, place = join_told(shares)
        self.assertTrue(is_lowest(found))
        self.assertEqual(worth_of(found), told)
        self.same(added(found, last_chance(passed(shares))), (1, 1))
        cup = joining_cup(tuple(passed(shares)))
        self.assertIs(type(cup), Cup)
        self.assertEqual(cup, last_ring(passed(shares)))
        self.assertEqual(cup.many, len(shares) + 1)
        web = Web.of_cup(cup)
        self.assertTrue(all(got >= told for got, told in zip(shares_told(web), shares)))
        self.same(joined_share(web), found)
        return place

    def test_rows(self):
        chooser = chooser_of(541)
        places = set()
        for _ in range(500):
            low = chooser.choice((0, Fraction(1, 2), Fraction(7, 10)))
            places.add(self.check(fractions_for(chooser, chooser.randint(1, 7), low)))
        self.assertTrue({None, 0, 1, 2, 3, 4, 5} <= places)

    def test_small_rows(self):
        for bottom, many in ((6, 1), (5, 2), (4, 3)):
            for row in itertools.product([Fraction(k, bottom) for k in range(bottom + 1)], repeat=many):
                self.check(list(row))

    def test_every_web(self):
        chooser = chooser_of(542)
        above = 0
        for _ in range(800):
            web = some_web(chooser, 4, 3, 3)
            least = worth_of(least_join([web.share(number) for number in range(web.size - 1)]))
            self.assertGreaterEqual(worth_of(joined_share(web)), least)
            above += least > 0
        self.assertGreater(above, 100)

    def test_every_cup(self):
        chooser = chooser_of(543)
        for _ in range(400):
            dice = some_dice(chooser, chooser.randint(2, 5), chooser.randint(2, 6), 3)
            chances = [chance(one, two) for one, two in zip(dice, dice[1:])]
            halves = [half_chance(one, two) for one, two in zip(dice, dice[1:])]
            share = worth_of(joined_share(Web.of_cup(dice)))
            self.assertGreaterEqual(worth_of(chance(dice[0], dice[-1])), share)
            self.assertGreaterEqual(share, worth_of(least_join(chances)))
            self.assertGreaterEqual(worth_of(half_chance(dice[0], dice[-1])), worth_of(least_join(halves)))

    def test_two(self):
        chooser = chooser_of(544)
        kinds = set()
        rows = [[Fraction(a, 6), Fraction(b, 6)] for a in range(7) for b in range(7)]
        for x, y in rows + [fractions_for(chooser, 2, Fraction(1, 3)) for _ in range(200)]:
            found = join_of_two(*passed([x, y]))
            told = join_told_of_two(x, y)
            self.assertTrue(is_lowest(found))
            self.assertEqual(worth_of(found), told)
            self.same(found, least_join(passed([x, y])))
            if told:
                kinds.add([1 - (1 - y) / x, x * y, 1 - (1 - x) / y].index(told))
        self.assertEqual(kinds, {0, 1, 2})

    def test_known_ones(self):
        self.same([least_join([(2, 3), (2, 3)]), join_of_two((2, 3), (2, 3)), join_of_two((1, 2), (1, 3))],
                  [(4, 9), (4, 9), (0, 1)])
        self.same([least_join([(5, 7)]), least_join([0]), least_join([1]), least_join([1, 1, 1])],
                  [(5, 7), (0, 1), (1, 1), (1, 1)])
        self.same([least_join([(1, 2), (1, 2)]), join_of_two(1, (1, 3)), join_of_two(0, 1)], [(0, 1), (1, 3), (0, 1)])

    def test_greatest(self):
        chooser = chooser_of(545)
        for trial in range(10):
            low = 70 * 10 ** 4 + 10 ** 4 * trial
            shares = [Fraction(chooser.randint(low, 90 * 10 ** 4), 10 ** 6 - chooser.randint(0, 99)) for _ in range(15)]
            for call in (least_join, joining_cup):
                self.ends_soon(1, call, passed(shares))
            self.check(shares)
            self.assertLessEqual(digits_of(*joining_cup(passed(shares))), 800)
        web = great_web(chooser)
        least = least_join([web.share(number) for number in range(7)])
        self.assertGreaterEqual(worth_of(joined_share(web)), worth_of(least))

    def test_errors(self):
        for call in (least_join, joining_cup):
            check_losses(self, call, "shares", 1)
        for value in NO_CHANCES:
            self.fails(BadNumber, {"name": "first"}, join_of_two, value, None)
            self.fails(BadNumber, {"name": "second"}, join_of_two, (1, 2), value)


if __name__ == "__main__":
    unittest.main()
