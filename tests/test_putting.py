"""Points 27 and 28: cups put in, and a second throw."""

import unittest

from dicewins.cups import Cup
from dicewins.dice import faces
from dicewins.errors import BadCup, OtherSize
from dicewins.putting import put_in, thrown_again
from dicewins.tables import table_of
from dicewins.throws import lead, ties
from helping import NO_ROWS, DiceTest, chooser_of, some_dice
from test_cups import check_cup


def die_with(chooser, ranks, count):
    """A die with so many faces."""
    die = [0] * ranks
    for _ in range(count):
        die[chooser.randrange(ranks)] += 1
    return tuple(die)


def dice_with(chooser, many, ranks, count):
    """Dice with so many faces each."""
    return [die_with(chooser, ranks, count) for _ in range(many)]


class PutInTest(DiceTest):
    def test_entries(self):
        found = put_in([(2, 1), (0, 3)], [[(1, 0, 1), (0, 2, 0)], Cup([(0, 0, 2), (1, 1, 0)])])
        self.assertIs(type(found), Cup)
        self.same(found.dice, ((2, 0, 2, 0, 0, 2), (0, 0, 0, 3, 3, 0)))
        self.same(put_in([(4,)], ([(5,)],)).dice, ((20,),))
        self.same(put_in([(10 ** 60,)], [[(1, 10 ** 60)]]).dice, ((10 ** 60, 10 ** 120),))

    def test_table_and_decks(self):
        chooser = chooser_of(95)
        decks = 0
        for _ in range(150):
            many, ranks, inner_ranks, count = (chooser.randint(1, 3) for _ in range(4))
            cup = some_dice(chooser, many, ranks, 2)
            inner = [dice_with(chooser, many, inner_ranks, count) for _ in range(ranks)]
            found = put_in(cup, inner)
            mine, told = table_of(cup), table_of(found)
            tables = [table_of(part) for part in inner]
            for a in range(many):
                for b in range(many):
                    more = sum(cup[a][j] * cup[b][j] * tables[j][a][b] for j in range(ranks))
                    self.assertEqual(told[a][b], count * count * mine[a][b] + more)
            apart = all(
                not (inner[j][a][k] and inner[j][b][k])
                for j in range(ranks) for a in range(many) for b in range(a) if cup[a][j] and cup[b][j]
                for k in range(inner_ranks)
            )
            self.assertIs(found.is_deck(), apart)
            decks += apart
        self.assertGreater(decks, 20)

    def test_errors_in_order(self):
        cup = [(1, 1), (2, 0)]
        inner = [[(1, 1), (0, 2)]] * 2
        check_cup(self, lambda value: put_in(value, None))
        for value in NO_ROWS + (Cup(cup),):
            self.fails(BadCup, {"place": -1}, put_in, cup, value)
        check_cup(self, lambda value: put_in(cup, [[(3,)], value, None]))
        self.fails(OtherSize, {"first": 2, "second": 0}, put_in, cup, [])
        self.fails(OtherSize, {"first": 2, "second": 3}, put_in, cup, [[(1,)], [(1,)], [(1,), (2,)]])
        self.fails(OtherSize, {"first": 2, "second": 3}, put_in, cup, [inner[0], [(1,), (1,), (2,)]])
        self.fails(OtherSize, {"first": 2, "second": 1}, put_in, cup, [[(1,)], [(1,), (1,), (2,)]])
        self.fails(OtherSize, {"first": 2, "second": 1}, put_in, cup, [inner[0], [(5,), (7,)]])
        self.fails(OtherSize, {"first": 1, "second": 2}, put_in, [(3,)], [[(1,)], [(1,)]])
        self.fails(OtherSize, {"first": 1, "second": 2}, put_in, [(3, 1)], [[(1,)], [(1, 4)]])
        self.fails(OtherSize, {"first": 2, "second": 3}, put_in, cup, [inner[0], [(1, 1), (1, 2)]])
        self.fails(OtherSize, {"first": 2, "second": 5}, put_in, cup, [[(1, 1), (0, 5)], [(1, 1), (1, 2)]])

    def test_arguments_stay(self):
        cup, inner = [[1, 1]], [[[1, 0]], [[0, 1]]]
        put_in(cup, inner)
        self.assertEqual([cup, inner], [[[1, 1]], [[[1, 0]], [[0, 1]]]])


class AgainTest(DiceTest):
    def test_thrown_again(self):
        chooser = chooser_of(96)
        for _ in range(100):
            many, ranks, count = (chooser.randint(1, 4) for _ in range(3))
            cup = Cup(dice_with(chooser, many, ranks, count))
            found = thrown_again(cup)
            self.assertIs(type(found), Cup)
            self.assertEqual(found, put_in(cup, [cup] * ranks))
            for a in range(many):
                for b in range(many):
                    tied = ties(cup[a], cup[b])
                    if a != b:
                        self.assertEqual(ties(found[a], found[b]), tied * tied)
                        self.assertEqual(lead(found[a], found[b]), lead(cup[a], cup[b]) * (count * count + tied))
            self.assertEqual([faces(die) for die in found], [count * count] * many)

    def test_entries(self):
        self.same(thrown_again([(1, 2), (3, 0)]).dice, ((1, 2, 2, 4), (9, 0, 0, 0)))
        self.same(thrown_again(Cup([(3,)])).dice, ((9,),))

    def test_errors(self):
        check_cup(self, thrown_again)
        self.fails(OtherSize, {"first": 3, "second": 2}, thrown_again, [(1, 2), (0, 3), (2, 0), (1, 0)])

    def test_a_great_cup(self):
        chooser = chooser_of(97)
        cup = Cup(dice_with(chooser, 6, 300, 1000))
        self.assertEqual(self.ends_soon(10, thrown_again, cup).ranks, 90000)


if __name__ == "__main__":
    unittest.main()
