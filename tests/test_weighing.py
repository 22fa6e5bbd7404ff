"""Points 31 and 35: weighings, mixes, and which of the two sides a table has."""

import unittest

from dicewins.cups import Cup
from dicewins.dice import mixed_die
from dicewins.errors import BadCup, BadNumber, BadTable, BadWeights, OtherSize
from dicewins.fewest import thrown_wide
from dicewins.tables import table_of, table_times
from dicewins.throws import lead
from dicewins.weighing import Mix, Weighing, below_all, tie_mix
from helping import (
    NO_INTS, NO_ROWS, DiceTest, all_tables, chooser_of, digits_of, in_order, is_short, many_tables, some_dice, some_table,
    worth_told,
)
from test_cups import check_cup
from test_tables import CUP, PAIR, RING, check_tables


def check_weighing(test, call):
    """The call raises BadWeights for what is no weighing."""
    for value in NO_ROWS + ((), [], Cup([(1, 0)])):
        test.fails(BadWeights, {"place": -1}, call, value)
    for value in NO_INTS:
        test.fails(BadWeights, {"place": 1}, call, (-1, value, None))


def check_mix(test, call):
    """The call raises BadWeights for what is no mix."""
    for value in NO_ROWS + ((), [], Cup([(1, 0)]), (0,), [0, 0, 0], Weighing((0, 0))):
        test.fails(BadWeights, {"place": -1}, call, value)
    for value in NO_INTS + (-1, -(10 ** 30)):
        test.fails(BadWeights, {"place": 2}, call, (0, 1, value, None))
    test.fails(BadWeights, {"place": 1}, call, Weighing((3, -1, 2)))
    test.fails(BadWeights, {"place": 0}, call, (-1, None))


def check_counts(test, call):
    """The call raises BadWeights for what is no row of integers of at least 1."""
    for value in NO_ROWS + ((), [], Cup([(1, 0)])):
        test.fails(BadWeights, {"place": -1}, call, value)
    for value in NO_INTS + (0, -1):
        test.fails(BadWeights, {"place": 1}, call, (1, value, None))
    test.fails(BadWeights, {"place": 2}, call, Weighing((3, 1, 0)))
    test.fails(BadWeights, {"place": 0}, call, Mix((0, 1)))


def check_short_mix(test, mix, many):
    """It is a Mix of so many dice in short form."""
    test.assertIs(type(mix), Mix)
    test.assertIs(type(mix.entries), tuple)
    test.assertEqual(len(mix.entries), many)
    test.assertTrue(all(type(entry) is int and entry >= 0 for entry in mix.entries) and any(mix.entries))
    test.assertTrue(is_short(mix.entries))


def check_short_weighing(test, weighing, many):
    """It is a Weighing, and no Mix, of so many dice in short form."""
    test.assertIs(type(weighing), Weighing)
    test.assertIs(type(weighing.entries), tuple)
    test.assertEqual(len(weighing.entries), many)
    test.assertTrue(all(type(entry) is int for entry in weighing.entries))
    test.assertTrue(is_short(weighing.entries))


class MakeTest(DiceTest):
    def test_entries(self):
        for row in ((1, -2, 0), [1, -2, 0], Weighing((1, -2, 0))):
            self.same(Weighing(row).entries, (1, -2, 0))
        self.same(Weighing([0, 0]).entries, (0, 0))
        self.same(Weighing(Mix((0, 3))).entries, (0, 3))
        self.same(Weighing([10 ** 200]).entries, (10 ** 200,))
        for row in ((1, 2, 0), [1, 2, 0], Weighing((1, 2, 0)), Mix((1, 2, 0))):
            self.same(Mix(row).entries, (1, 2, 0))
        self.assertIs(type(Weighing(Mix((0, 3)))), Weighing)
        self.assertIsInstance(Mix((1,)), Weighing)

    def test_keeps_nothing_that_was_passed(self):
        for kind in (Weighing, Mix):
            row = [1, 2]
            made = kind(row)
            row[0] = 5
            self.same(made.entries, (1, 2))

    def test_what_is_none(self):
        check_weighing(self, Weighing)
        check_mix(self, Mix)

    def test_listed_methods_stand_in_the_class(self):
        for name in (
            "__init__", "__len__", "__getitem__", "__iter__", "__eq__", "__add__", "__sub__", "__neg__", "__mul__",
            "worth", "short", "is_below_all",
        ):
            self.assertIn(name, vars(Weighing))
        for name in ("__init__", "short", "taken_dice", "thrown_in", "ties_with_all"):
            self.assertIn(name, vars(Mix))


class RowTest(DiceTest):
    def test_length_items_and_order(self):
        for made in (Weighing((4, 0, 7)), Mix((4, 0, 7))):
            self.same([len(made), made[0], made[2], list(made)], [3, 4, 7, [4, 0, 7]])
            for at in NO_INTS + (-1, 3, slice(0, 1), "die"):
                self.fails(BadNumber, {"name": "die"}, lambda: made[at])

    def test_equal(self):
        for one in (Weighing((1, 2)), Mix((1, 2))):
            for other in (Weighing([1, 2]), Mix([1, 2])):
                self.assertIs(one == other, True)
                self.assertIs(one != other, False)
            for other in (Weighing((2, 4)), Mix((2, 1)), Weighing((1,)), Weighing((1, 2, 0)), (1, 2), [1, 2], None, 3):
                self.assertIs(one == other, False)
                self.assertIs(one != other, True)


class SignTest(DiceTest):
    def test_entry_by_entry(self):
        for one in (Weighing((4, 0, 7)), Mix((4, 0, 7))):
            for two in (Weighing((1, 5, 7)), Mix((1, 5, 7))):
                for found, told in (
                    (one + two, (5, 5, 14)), (one - two, (3, -5, 0)), (-one, (-4, 0, -7)), (one * 3, (12, 0, 21)),
                    (one * -1, (-4, 0, -7)), (one * 0, (0, 0, 0)),
                ):
                    self.assertIs(type(found), Weighing)
                    self.same(found.entries, told)
            self.same(one.entries, (4, 0, 7))

    def test_errors(self):
        for kind in (Weighing, Mix):
            for other in (Weighing((1, 2)), Mix((1, 2))):
                self.fails(OtherSize, {"first": 3, "second": 2}, lambda: kind((1, 2, 3)) + other)
                self.fails(OtherSize, {"first": 3, "second": 2}, lambda: kind((1, 2, 3)) - other)
            for value in NO_INTS:
                self.fails(BadNumber, {"name": "number"}, lambda: kind((1, 2)) * value)


class MethodTest(DiceTest):
    def test_worth(self):
        chooser = chooser_of(201)
        for _ in range(200):
            many = chooser.randint(1, 8)
            table = some_table(chooser, many, 9)
            row = [chooser.randint(-5, 5) for _ in range(many)]
            found = Weighing(row).worth(table)
            self.assertIs(type(found), Weighing)
            self.same(found.entries, worth_told(table, row))
            self.assertIs(Weighing(row).is_below_all(table), min(worth_told(table, row)) > 0)
            mix = [abs(entry) for entry in row]
            if any(mix):
                self.assertIs(type(Mix(mix).worth(table)), Weighing)
                self.same(Mix(mix).worth(table).entries, worth_told(table, mix))
                self.assertIs(Mix(mix).ties_with_all(table), not any(worth_told(table, mix)))

    def test_worth_is_a_lead(self):
        chooser = chooser_of(202)
        for _ in range(50):
            dice = some_dice(chooser, 3, 4, 3)
            weights = [chooser.randint(0, 3) for _ in range(2)] + [1]
            mixed = mixed_die(weights, *dice)
            self.assertEqual(Mix(weights).worth(table_of(dice)).entries, tuple(lead(die, mixed) for die in dice))

    def test_below_all_and_ties(self):
        for weights, below, ties in (((0, -1), False, False), ((1, -1), True, False), ((0, 0), False, True)):
            self.assertIs(Weighing(weights).is_below_all(((0, -1), (1, 0))), below)
            self.assertIs(not any(Weighing(weights).worth(((0, -1), (1, 0)))), ties)
        self.assertIs(Mix((1, 1, 1)).ties_with_all(RING), True)
        self.assertIs(Mix((1, 1, 2)).ties_with_all(RING), False)
        self.assertIs(Mix((2, 2, 2)).is_below_all(RING), False)
        self.assertIs(Mix((0, 5)).ties_with_all(((0, 0), (0, 0))), True)

    def test_short(self):
        for row, told in (
            ((4, -6, 0), (2, -3, 0)), ((0, 0), (0, 0)), ((-5,), (-1,)), ((3, 7), (3, 7)), ((0, -8), (0, -1)),
        ):
            found = Weighing(row).short()
            self.assertIs(type(found), Weighing)
            self.same(found.entries, told)
        for row, told in (((4, 6, 0), (2, 3, 0)), ((5,), (1,)), ((0, 10 ** 50), (0, 1))):
            found = Mix(row).short()
            self.assertIs(type(found), Mix)
            self.same(found.entries, told)

    def test_taken_dice(self):
        self.same(Mix((0, 3, 0, 1)).taken_dice(), (1, 3))
        self.same(Mix([7]).taken_dice(), (0,))

    def test_thrown_in(self):
        self.same(Mix((1, 2)).thrown_in([(1, 0, 1), (0, 3, 0)]), (1, 6, 1))
        self.same(Mix((0, 2, 0)).thrown_in(CUP), tuple(2 * entry for entry in CUP[1]))
        check_cup(self, Mix((1, 2)).thrown_in)
        self.fails(OtherSize, {"first": 3, "second": 2}, Mix((1, 2)).thrown_in, CUP)
        self.fails(OtherSize, {"first": 1, "second": 2}, Mix((1, 2)).thrown_in, [(1,)])

    def test_errors(self):
        for call in (
            Weighing((1, -2)).worth, Weighing((1, -2)).is_below_all, Mix((1, 2)).worth, Mix((1, 2)).is_below_all,
            Mix((1, 2)).ties_with_all,
        ):
            check_tables(self, call)
            self.fails(OtherSize, {"first": 3, "second": 2}, call, RING)
            self.fails(OtherSize, {"first": 1, "second": 2}, call, [[0]])


class SidesTest(DiceTest):
    def check(self, table):
        """Just one of the two sides is there, and it shows that the other one is not."""
        many = len(table)
        mix, below = tie_mix(table), below_all(table)
        self.assertNotEqual(mix is None, below is None)
        if mix is not None:
            check_short_mix(self, mix, many)
            self.assertFalse(any(worth_told(table, mix.entries)))
            self.assertLessEqual(digits_of(mix.entries), 800)
        else:
            check_short_weighing(self, below, many)
            self.assertGreater(min(worth_told(table, below.entries)), 0)
            self.assertLessEqual(digits_of(below.entries), 800)
        return mix is not None

    def test_small_tables(self):
        sides = [self.check(table) for most, many in ((3, 2), (2, 3), (1, 4)) for table in all_tables(many, most)]
        self.assertGreater(min(sides.count(True), sides.count(False)), 200)

    def test_tables_of_each_sort(self):
        for table in many_tables(chooser_of(203)):
            told = self.check(table)
            for times in (1000, 10 ** 6):
                self.assertEqual(self.check(table_times(table, times)), told)

    def test_known_ones(self):
        self.assertEqual(tie_mix(RING).entries, (1, 1, 1))
        self.assertIsNone(below_all(RING))
        self.assertEqual(tie_mix(((0, 3, -1), (-3, 0, 5), (1, -5, 0))).entries, (5, 1, 3))
        for many in range(2, 9):
            self.assertIsNone(tie_mix(in_order(many)))
            self.assertTrue(self.check(in_order(many, 0)))
        self.same(tie_mix([[0]]).entries, (1,))
        self.assertIsNone(below_all([[0]]))
        self.assertIsNone(tie_mix(PAIR))

    def test_what_a_tying_mix_does(self):
        chooser = chooser_of(204)
        for table in many_tables(chooser, 5):
            mix = tie_mix(table)
            if mix is not None:
                row = [chooser.randint(-9, 9) for _ in table]
                self.assertEqual(sum(a * b for a, b in zip(mix, Weighing(row).worth(table))), 0)

    def test_great_tables(self):
        chooser = chooser_of(205)
        for _ in range(10):
            table = some_table(chooser, 8, 10 ** 6)
            self.ends_soon(2, tie_mix, table)
            self.ends_soon(2, below_all, table)
            self.check(table)
            more = table_of(thrown_wide(table, [10 ** 12 - k for k in range(8)]).cup)
            self.ends_soon(2, tie_mix, more)
            self.check(more)

    def test_errors(self):
        check_tables(self, tie_mix)
        check_tables(self, below_all)
        self.fails(BadTable, {"place": 1}, tie_mix, ((0, 1), (1, 0)))
        self.fails(BadCup, {"place": -1}, Mix((1,)).thrown_in, None)


if __name__ == "__main__":
    unittest.main()
