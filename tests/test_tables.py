"""Point 13: tables."""

import unittest

from dicewins.cups import Cup
from dicewins.errors import BadCup, BadNumber, BadSet, BadTable, OtherSize
from dicewins.tables import check_table, is_odd, pair_entries, sub_table, table_of, table_sum, table_times, throws_times
from helping import NO_INTS, NO_ROWS, DiceTest, chooser_of, counted_table, some_dice, some_table
from test_cups import check_cup

RING = ((0, 1, -1), (-1, 0, 1), (1, -1, 0))
PAIR = ((0, 2), (-2, 0))
ONE = ((0,),)
CUP = Cup([(0, 1, 0, 1, 0, 0, 0, 0, 1), (1, 0, 0, 0, 0, 1, 0, 1, 0), (0, 0, 1, 0, 1, 0, 1, 0, 0)])


def check_tables(test, call):
    """The call raises BadTable for what is no table."""
    for value in NO_ROWS + ((), [], ((0, 1), (-1,)), ((0, 1),), ((0, 1), 5), ((), ()), ((0, 0), (0, 0), (0, 0)), CUP):
        test.fails(BadTable, {"place": -1}, call, value)
    for value, place in (
        (((1,),), 0), (((0, 1), (1, 0)), 1), (((0, 1), (-1, 1)), 3), ([[0, 1], [True, 0]], 1), (((False, 1), (-1, 0)), 0),
        (((0, 1, 2), (-1, 0, 3), (-2, 3, 0)), 5), (((0, 1, 2), (-1, 0, 3), (2, 3, 0)), 2), (((0, None), (0, 1)), 1),
        (((0, 1.0), (-1, 0)), 1), (((0, 0), (0, "0")), 3), (((0, 1), (-1.0, 0)), 1), (((0, -1), (True, 0)), 1),
        (((0, 1), (None, 0)), 1), (((0, 0, 1), (0, 0, 1), (-1, [], 0)), 5),
    ):
        test.fails(BadTable, {"place": place}, call, value)


class TableOfTest(DiceTest):
    def test_counted(self):
        chooser = chooser_of(31)
        for _ in range(100):
            dice = some_dice(chooser, chooser.randint(1, 4), chooser.randint(1, 5), 3)
            self.same(table_of(dice), counted_table(dice))
            self.same(table_of(Cup(dice)), counted_table(dice))

    def test_edges(self):
        self.same(table_of([(1,)]), ((0,),))
        self.same(table_of([(0, 10 ** 60), (10 ** 60, 0)]), ((0, 10 ** 120), (-(10 ** 120), 0)))
        self.same(table_of(CUP), RING)
        check_cup(self, table_of)


class OneTableTest(DiceTest):
    def test_check_table(self):
        rows = [[0, 2], [-2, 0]]
        found = check_table(rows)
        rows[0][1] = 7
        self.same(found, PAIR)
        self.same(check_table([[0]]), ONE)

    def test_what_is_no_table(self):
        for call in (check_table, is_odd, pair_entries):
            check_tables(self, call)
        check_tables(self, lambda value: table_sum(value, None))
        check_tables(self, lambda value: table_sum(PAIR, value))
        check_tables(self, lambda value: table_times(value, None))
        check_tables(self, lambda value: sub_table(value, None))
        check_tables(self, lambda value: throws_times(CUP, value))

    def test_is_odd(self):
        for table, found in (
            (RING, True), (PAIR, False), (ONE, True), (((0, -3), (3, 0)), True), (((0, 0), (0, 0)), False),
            (((0, 1, 1), (-1, 0, 2), (-1, -2, 0)), False),
        ):
            self.assertIs(is_odd(table), found)

    def test_pair_entries(self):
        self.same(pair_entries(((0, 1, 2), (-1, 0, 3), (-2, -3, 0))), (1, 2, 3))
        self.same(pair_entries(ONE), ())
        self.same(pair_entries([[0, -5], [5, 0]]), (-5,))


class MadeTableTest(DiceTest):
    def test_table_sum(self):
        self.same(table_sum(PAIR, [[0, -5], [5, 0]]), ((0, -3), (3, 0)))
        self.same(table_sum(ONE, ONE), ONE)
        self.fails(OtherSize, {"first": 2, "second": 3}, table_sum, PAIR, RING)

    def test_table_times(self):
        self.same(table_times(PAIR, -3), ((0, -6), (6, 0)))
        self.same(table_times(PAIR, 0), ((0, 0), (0, 0)))
        self.same(table_times([[0, 10 ** 60], [-(10 ** 60), 0]], 10), ((0, 10 ** 61), (-(10 ** 61), 0)))
        for value in NO_INTS:
            self.fails(BadNumber, {"name": "number"}, table_times, PAIR, value)

    def test_sub_table(self):
        table = ((0, 1, 2), (-1, 0, 3), (-2, -3, 0))
        self.same(sub_table(table, [2, 0]), ((0, -2), (2, 0)))
        self.same(sub_table(table, (1,)), ((0,),))
        self.same(sub_table(table, [0, 1, 2]), table)
        for value in NO_ROWS + ((), []):
            self.fails(BadSet, {"place": -1}, sub_table, table, value)
        for value in NO_INTS + (-1, 3, 2):
            self.fails(BadSet, {"place": 1}, sub_table, table, (2, value))


class ThrowsTimesTest(DiceTest):
    def test_times(self):
        chooser = chooser_of(32)
        for _ in range(100):
            dice = some_dice(chooser, 3, 4, 3)
            found = table_of(dice)
            if any(pair_entries(found)):
                factor = chooser.randint(1, 9)
                more = Cup(dice).spread(factor)
                self.same(throws_times(more, found), factor * factor)
                self.same(throws_times(dice, found), 1)
                self.assertIsNone(throws_times(dice, table_times(found, -1)))
                self.assertIsNone(throws_times(dice, table_times(found, 0)))
                self.assertIsNone(throws_times(dice, table_times(found, 7 ** 9)))

    def test_by_its_words(self):
        chooser = chooser_of(33)
        for _ in range(2000):
            dice = some_dice(chooser, 2, 3, 2)
            asked = some_table(chooser, 2, 3)
            entry = table_of(dice)[0][1]
            fitting = [c for c in range(1, 20) if entry == c * asked[0][1]]
            self.assertEqual(throws_times(dice, asked), fitting[0] if fitting else None)

    def test_all_zero(self):
        self.same(throws_times([(1, 1), (2, 2)], ((0, 0), (0, 0))), 1)
        self.same(throws_times([(3,)], ONE), 1)
        self.assertIsNone(throws_times([(1, 1), (2, 2)], PAIR))
        self.assertIsNone(throws_times([(0, 1), (1, 0)], ((0, 0), (0, 0))))

    def test_some_entries_only(self):
        self.assertIsNone(throws_times(CUP, ((0, 1, -1), (-1, 0, 0), (1, 0, 0))))
        self.assertIsNone(throws_times(CUP, ((0, 0, -1), (0, 0, 1), (1, -1, 0))))

    def test_errors_in_order(self):
        check_cup(self, lambda value: throws_times(value, None))
        self.fails(BadTable, {"place": -1}, throws_times, CUP, None)
        self.fails(OtherSize, {"first": 3, "second": 2}, throws_times, CUP, PAIR)
        self.fails(BadCup, {"place": 0}, throws_times, [(0,)], PAIR)


if __name__ == "__main__":
    unittest.main()
