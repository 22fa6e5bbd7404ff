"""Point 3: fractions and told chances."""

import unittest
from fractions import Fraction

from dicewins.errors import BadNumber
from dicewins.fractions_of import added, divided, fraction, is_equal, is_less, multiplied, taken_off, told_chance
from helping import DiceTest, chooser_of, is_lowest, worth_of

NO_FRACTIONS = (
    None, True, False, 0.5, "1", (1,), (1, 2, 3), (), [], (1, 0), (1, -2), (True, 2), (1, True), (0.5, 1), ("1", 2),
    {1: 2}, (1, None), Fraction(1, 2),
)


class FractionTest(DiceTest):
    def test_lowest_terms(self):
        for value, found in (
            (3, (3, 1)), (0, (0, 1)), (-4, (-4, 1)), ((2, 4), (1, 2)), ([6, 3], (2, 1)), ((0, 7), (0, 1)),
            ((-2, 4), (-1, 2)), ((10 ** 60, 10 ** 28), (10 ** 32, 1)), ([5, 1], (5, 1)),
        ):
            self.same(fraction(value, "it"), found)

    def test_no_fractions(self):
        for value in NO_FRACTIONS:
            self.fails(BadNumber, {"name": "it"}, fraction, value, "it")
            self.fails(BadNumber, {"name": "that"}, told_chance, value, "that")

    def test_told_chances(self):
        for value, found in ((0, (0, 1)), (1, (1, 1)), ((2, 4), (1, 2)), ([3, 3], (1, 1)), ((0, 5), (0, 1))):
            self.same(told_chance(value, "it"), found)
        for value in (2, -1, (3, 2), (-1, 2), (10 ** 28 + 1, 10 ** 28)):
            self.fails(BadNumber, {"name": "it"}, told_chance, value, "it")


class ReckoningTest(DiceTest):
    def test_worths(self):
        chooser = chooser_of(3)
        for _ in range(500):
            first = (chooser.randint(-9, 9), chooser.randint(1, 9))
            second = [chooser.randint(-9, 9), chooser.randint(1, 9)]
            a = worth_of(first)
            b = worth_of(second)
            for call, worth in ((added, a + b), (taken_off, a - b), (multiplied, a * b)):
                found = call(first, second)
                self.assertTrue(is_lowest(found))
                self.assertEqual(worth_of(found), worth)
            if b:
                found = divided(first, second)
                self.assertTrue(is_lowest(found), found)
                self.assertEqual(worth_of(found), a / b)
            self.assertIs(is_less(first, second), a < b)
            self.assertIs(is_equal(first, second), a == b)

    def test_integers_and_great_ones(self):
        self.same(added(1, (1, 2)), (3, 2))
        self.same(taken_off((1, 2), (1, 2)), (0, 1))
        self.same(multiplied(10 ** 60, (1, 10 ** 60)), (1, 1))
        self.same(divided(1, -3), (-1, 3))
        self.same(divided((0, 3), (-5, 2)), (0, 1))
        self.assertIs(is_equal((2, 4), [1, 2]), True)
        self.assertIs(is_less((10 ** 60 - 1, 10 ** 60), 1), True)
        self.assertIs(is_less(1, 1), False)

    def test_errors_in_order(self):
        for call in (added, taken_off, multiplied, divided, is_less, is_equal):
            for value in NO_FRACTIONS:
                self.fails(BadNumber, {"name": "first"}, call, value, 1)
                self.fails(BadNumber, {"name": "first"}, call, value, value)
                self.fails(BadNumber, {"name": "second"}, call, 1, value)

    def test_divided_by_zero(self):
        self.fails(BadNumber, {"name": "divisor"}, divided, 1, 0)
        self.fails(BadNumber, {"name": "divisor"}, divided, (1, 2), (0, 5))
        self.fails(BadNumber, {"name": "first"}, divided, None, 0)


if __name__ == "__main__":
    unittest.main()
