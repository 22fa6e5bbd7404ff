"""What points 31 and 32 say of rows: rank, kernel and solutions."""

import unittest
from fractions import Fraction
from math import gcd

from dicewins.cups import Cup
from dicewins.errors import BadNumber, BadWeights, OtherSize
from dicewins.linear import kernel_rows, row_rank, solution
from helping import NO_INTS, NO_ROWS, DiceTest, chooser_of, is_lowest, worth_of


def rank_told(rows):
    """The rank, by elimination in Fractions."""
    left = [[Fraction(entry) for entry in row] for row in rows]
    rank = 0
    for column in range(len(rows[0]) if rows else 0):
        held = [row for row in left if row[column]]
        if held:
            pivot = held[0]
            left = [
                [entry - row[column] / pivot[column] * other for entry, other in zip(row, pivot)]
                for row in left if row is not pivot
            ]
            rank += 1
    return rank


def some_rows(chooser, many, width, most):
    """Rows of integers, some of them sums of others."""
    rows = [[chooser.randint(-most, most) for _ in range(width)] for _ in range(many)]
    for place in range(many):
        if chooser.random() < 0.4:
            a, b = chooser.choice(rows), chooser.choice(rows)
            k, m = chooser.randint(-2, 2), chooser.randint(-2, 2)
            rows[place] = [k * x + m * y for x, y in zip(a, b)]
    return rows


def check_rows(test, call):
    """The call raises BadWeights for what are no rows of integers of one length."""
    for value in NO_ROWS + (Cup([(1, 0)]),):
        test.fails(BadWeights, {"place": -1}, call, value)
    for value in NO_ROWS + ((), (1,), (1, 2, 3), (1, None), (True, 0), [0, 1.0]):
        test.fails(BadWeights, {"place": 1}, call, [(1, 2), value, None])
    test.fails(BadWeights, {"place": 0}, call, [3, (1, 2)])
    test.fails(BadWeights, {"place": 0}, call, [(1, "2"), (1,)])
    test.fails(BadWeights, {"place": 2}, call, ((), [], (0,)))


def check_row(test, call):
    """The call raises BadWeights for what is no row of integers."""
    for value in NO_ROWS:
        test.fails(BadWeights, {"place": -1}, call, value)
    for value in NO_INTS:
        test.fails(BadWeights, {"place": 1}, call, (0, value, None))


class RankTest(DiceTest):
    def test_ranks(self):
        chooser = chooser_of(101)
        for _ in range(300):
            rows = some_rows(chooser, chooser.randint(1, 5), chooser.randint(1, 5), 3)
            self.same(row_rank(rows), rank_told(rows))

    def test_edges(self):
        for rows, rank in (
            ([], 0), ((), 0), ([()], 0), ([[], []], 0), ([(0, 0)], 0), ([(0, 7)], 1), ([(1, 2), (-2, -4)], 1),
            ([(10 ** 60, 1), (1, 10 ** 60)], 2), ([[3], [5]], 1),
        ):
            self.same(row_rank(rows), rank)

    def test_errors(self):
        check_rows(self, row_rank)


class KernelTest(DiceTest):
    def check(self, rows, width):
        """The kernel has the length told, and its rows are right and not sums of one another."""
        found = kernel_rows(rows, width)
        self.assertIs(type(found), list)
        self.assertEqual(len(found), width - rank_told(rows))
        for x in found:
            self.assertIs(type(x), tuple)
            self.assertEqual(len(x), width)
            self.assertEqual(gcd(*x), 1)
            for row in rows:
                self.assertEqual(sum(a * b for a, b in zip(row, x)), 0)
        self.assertEqual(rank_told(found), len(found))
        return found

    def test_kernels(self):
        chooser = chooser_of(102)
        for _ in range(300):
            width = chooser.randint(1, 6)
            self.check(some_rows(chooser, chooser.randint(1, 5), width, 3), width)

    def test_edges(self):
        self.assertEqual(self.check([], 0), [])
        self.assertEqual(len(self.check([], 3)), 3)
        self.assertEqual(self.check([(), ()], 0), [])
        self.assertEqual(self.check([(0, 0, 0)], 3), self.check([], 3))
        self.assertIn(self.check([(2, -4)], 2), ([(2, 1)], [(-2, -1)]))
        self.assertEqual(self.check([(1, 0), (0, 1)], 2), [])

    def test_errors_in_order(self):
        check_rows(self, lambda value: kernel_rows(value, None))
        for value in NO_INTS + (-1,):
            self.fails(BadNumber, {"name": "width"}, kernel_rows, [(1, 2)], value)
            self.fails(BadNumber, {"name": "width"}, kernel_rows, [], value)
        self.fails(OtherSize, {"first": 2, "second": 3}, kernel_rows, [(1, 2)], 3)
        self.fails(OtherSize, {"first": 0, "second": 3}, kernel_rows, [()], 3)


class SolutionTest(DiceTest):
    def test_solutions(self):
        chooser = chooser_of(103)
        none = 0
        for _ in range(400):
            width = chooser.randint(1, 5)
            rows = some_rows(chooser, chooser.randint(1, 5), width, 3)
            right = [chooser.randint(-5, 5) for _ in rows]
            if chooser.random() < 0.5:
                x = [chooser.randint(-3, 3) for _ in range(width)]
                right = [sum(a * b for a, b in zip(row, x)) for row in rows]
            found = solution(rows, right)
            wider = [row + [told] for row, told in zip(rows, right)]
            self.assertEqual(found is None, rank_told(wider) > rank_told(rows))
            none += found is None
            if found is not None:
                self.assertIs(type(found), tuple)
                self.assertEqual(len(found), width)
                self.assertTrue(all(is_lowest(entry) for entry in found))
                for row, told in zip(rows, right):
                    self.assertEqual(sum(a * worth_of(b) for a, b in zip(row, found)), told)
        self.assertGreater(none, 20)

    def test_edges(self):
        self.same(solution([], []), ())
        self.same(solution((), ()), ())
        self.same(solution([()], [0]), ())
        self.same(solution([()], [1]), None)
        self.same(solution([[], []], (0, 2)), None)
        self.same(solution([[2, 0], [0, -4]], [1, 6]), ((1, 2), (-3, 2)))
        self.same(solution([(10 ** 60,)], [1]), ((1, 10 ** 60),))

    def test_errors_in_order(self):
        check_rows(self, lambda value: solution(value, None))
        check_row(self, lambda value: solution([(1, 2)], value))
        self.fails(OtherSize, {"first": 1, "second": 2}, solution, [(1, 2)], (1, 2))
        self.fails(OtherSize, {"first": 0, "second": 1}, solution, [], [4])


class SizeTest(DiceTest):
    def test_greatest_rows(self):
        chooser = chooser_of(104)
        most = 10 ** 12
        for many, width in ((40, 40), (39, 40), (20, 40), (40, 39), (1, 40)):
            rows = [[chooser.randint(-most, most) for _ in range(width)] for _ in range(many)]
            self.same(self.ends_soon(10, row_rank, rows), min(many, width))
            found = self.ends_soon(10, kernel_rows, rows, width)
            for x in found:
                self.assertTrue(all(sum(a * b for a, b in zip(row, x)) == 0 for row in rows))
                self.assertLess(max(abs(entry) for entry in x), 10 ** 800)
            self.ends_soon(10, solution, rows, [chooser.randint(-most, most) for _ in rows])

    def test_what_was_returned_may_be_passed_on(self):
        chooser = chooser_of(105)
        rows = [[chooser.randint(-10 ** 12, 10 ** 12) for _ in range(40)] for _ in range(20)]
        kernel = kernel_rows(rows, 40)
        self.same(self.ends_soon(10, row_rank, kernel), 20)
        back = self.ends_soon(10, kernel_rows, kernel, 40)
        self.same(self.ends_soon(10, row_rank, rows + [list(row) for row in back]), 20)


if __name__ == "__main__":
    unittest.main()
