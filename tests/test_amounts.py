"""Points 1 and 2: integers, rows and sets of dice."""

import unittest

from dicewins.amounts import check_int, common_divisor, is_int, set_of, shortened
from dicewins.errors import BadNumber, BadSet
from helping import NO_INTS, NO_ROWS, DiceTest


class IntegerTest(DiceTest):
    def test_integers(self):
        for value in (0, 1, -1, 10 ** 60, -(10 ** 60)):
            self.assertIs(is_int(value), True)

    def test_what_is_no_integer(self):
        for value in NO_INTS + (True, False):
            self.assertIs(is_int(value), False, value)

    def test_check_int(self):
        self.same(check_int(3, "number", 3), 3)
        self.same(check_int(-2, "number", -5), -2)
        self.fails(BadNumber, {"name": "number"}, check_int, 2, "number", 3)
        for value in NO_INTS:
            self.fails(BadNumber, {"name": "other"}, check_int, value, "other", 0)


class DivisorTest(DiceTest):
    def test_common_divisor(self):
        for row, divisor in (
            ((4, 6), 2), ([4, -6, 0], 2), ((-3,), 3), ((0, 0), 0), ((), 0), ([], 0), ((0, 5), 5),
            ((7, 5), 1), ((6 * 10 ** 60, 4 * 10 ** 60), 2 * 10 ** 60),
        ):
            self.same(common_divisor(row), divisor)

    def test_shortened(self):
        for row, short in (
            ((4, 6), (2, 3)), ([4, -6, 0], (2, -3, 0)), ((-3,), (-1,)), ((0, 0), (0, 0)), ([], ()), ((7, 5), (7, 5)),
        ):
            self.same(shortened(row), short)

    def test_arguments_stay(self):
        row = [4, 6]
        shortened(row)
        self.assertEqual(row, [4, 6])


class SetTest(DiceTest):
    def test_sets(self):
        self.same(set_of([], 3), ())
        self.same(set_of((), 0), ())
        self.same(set_of([2, 0], 3), (0, 2))
        self.same(set_of((1, 3, 0, 2), 4), (0, 1, 2, 3))

    def test_no_row(self):
        for value in NO_ROWS:
            self.fails(BadSet, {"place": -1}, set_of, value, 3)

    def test_wrong_entries(self):
        self.fails(BadSet, {"place": 1}, set_of, [0, 3], 3)
        self.fails(BadSet, {"place": 0}, set_of, [-1, 3], 3)
        self.fails(BadSet, {"place": 2}, set_of, [1, 0, 1, 5], 3)
        for value in NO_INTS:
            self.fails(BadSet, {"place": 1}, set_of, [0, value, 0], 3)

    def test_argument_stays(self):
        row = [2, 0, 1]
        set_of(row, 3)
        self.assertEqual(row, [2, 0, 1])


if __name__ == "__main__":
    unittest.main()
