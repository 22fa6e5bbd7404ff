"""Points 34, 41 and 42: rows that alternate, dice on two and three ranks, rings on four ranks."""

import itertools
import unittest

from dicewins.cups import Cup
from dicewins.errors import BadDie, BadNumber, OtherSize
from dicewins.slopes import alternates, ring_on_four, slope
from dicewins.tables import table_of
from dicewins.throws import beats, lead
from dicewins.weighing import Mix, Weighing
from helping import NO_INTS, NO_ROWS, DiceTest, chooser_of, is_lowest, some_dice, worth_of
from test_weighing import check_weighing


class SlopeTest(DiceTest):
    def test_by_its_words(self):
        for die in itertools.product(range(4), repeat=3):
            if any(die):
                found = slope(die)
                if die[0] + die[1] == 0:
                    self.assertIsNone(found)
                else:
                    self.assertTrue(is_lowest(found))
                    self.assertEqual(worth_of(found) * (die[0] + die[1]), die[1] + die[2])
        for die in itertools.product(range(4), repeat=2):
            if any(die):
                self.same(slope(list(die)), slope((die[0], 0, die[1])))

    def test_slopes_tell_who_beats_whom(self):
        for ranks in (2, 3):
            dice = [die for die in itertools.product(range(3), repeat=ranks) if any(die)]
            height = {die: 10 ** 9 if slope(die) is None else worth_of(slope(die)) for die in dice}
            for one in dice:
                for two in dice:
                    self.assertEqual(beats(one, two), height[one] > height[two])
                    self.assertEqual(lead(one, two) == 0, height[one] == height[two])

    def test_known_ones(self):
        self.same(
            [slope((1, 2, 3)), slope((2, 1)), slope((0, 0, 4)), slope((0, 3)), slope([4, 0]), slope((10 ** 60, 0, 1))],
            [(5, 3), (1, 2), None, None, (0, 1), (1, 10 ** 60)],
        )

    def test_errors(self):
        for value in NO_ROWS + ((), (0, 0), (0, 0, 0, 0)):
            self.fails(BadDie, {"place": -1}, slope, value)
        for value in NO_INTS + (-1,):
            self.fails(BadDie, {"place": 1}, slope, (0, value))
        for die in ((1,), (1, 0, 0, 0), (0,) * 9 + (1,)):
            self.fails(OtherSize, {"first": 3, "second": len(die)}, slope, die)


class RingTest(DiceTest):
    def test_rings(self):
        for many in list(range(3, 13)) + [39, 40]:
            cup = self.ends_soon(2, ring_on_four, many)
            self.assertIs(type(cup), Cup)
            self.same([cup.many, cup.ranks], [many, 4])
            for number in range(many):
                self.assertTrue(beats(cup[number], cup[(number + 1) % many]))

    def test_errors(self):
        for value in NO_INTS + (2, 0, -3):
            self.fails(BadNumber, {"name": "many"}, ring_on_four, value)


class AlternateTest(DiceTest):
    def test_by_its_words(self):
        for length in range(1, 6):
            for row in itertools.product(range(-2, 3), repeat=length):
                told = row == (0,) * length
                for first in range(-2, 3):
                    told = told or length % 2 == 1 and row == tuple(first * (-1) ** k for k in range(length))
                self.assertIs(alternates(row), told)
                self.assertIs(alternates(list(row)), told)
                self.assertIs(alternates(Weighing(row)), told)

    def test_other_rows(self):
        self.assertIs(alternates(Mix((3,))), True)
        self.assertIs(alternates((10 ** 60, -(10 ** 60), 10 ** 60)), True)
        self.assertIs(alternates((0,) * 40), True)
        self.assertIs(alternates((1, -1) * 20), False)
        check_weighing(self, alternates)

    def test_what_it_tells_of_a_cup(self):
        chooser = chooser_of(231)
        seen = set()
        for _ in range(300):
            ranks = chooser.randint(1, 4)
            dice = some_dice(chooser, 3, ranks, 2)
            singles = [[int(j == rank) for j in range(ranks)] for rank in range(ranks)]
            for weights in itertools.product((-1, 0, 1), repeat=3):
                summed = [sum(w * die[rank] for w, die in zip(weights, dice)) for rank in range(ranks)]
                told = all(sum(w * lead(die, single) for w, die in zip(weights, dice)) == 0 for single in singles)
                self.assertIs(alternates(summed), told)
                seen.add((told, any(summed)))
        self.assertEqual(len(seen), 3)

    def test_no_die_ties_with_all_one_faced_dice(self):
        for ranks in (2, 3, 4):
            table = table_of([[int(j == rank) for j in range(ranks)] for rank in range(ranks)])
            for die in itertools.product(range(3), repeat=ranks):
                if any(die):
                    self.assertTrue(any(Weighing(die).worth(table)))


if __name__ == "__main__":
    unittest.main()
