"""Point 43: programs."""

import collections
import unittest

from dicewins.errors import OtherSize
from dicewins.programs import Outcome, greatest_sum
from helping import DiceTest, chooser_of, is_lowest, worth_of
from test_linear import check_row, check_rows


def dotted(row, other):
    """The sum of the products at the same places."""
    return sum(a * b for a, b in zip(row, other))


class OutcomeTest(DiceTest):
    """Checks of an outcome by its own numbers."""

    def fractions(self, row, many):
        """The worths of a tuple of fractions of at least 0."""
        self.assertIs(type(row), tuple)
        self.assertEqual(len(row), many)
        self.assertTrue(all(is_lowest(entry) and entry[0] >= 0 for entry in row))
        return [worth_of(entry) for entry in row]

    def check(self, aims, rows, bounds):
        """The outcome shows by its own numbers that it is right; which of the three it is."""
        found = greatest_sum(aims, rows, bounds)
        self.assertIs(type(found), Outcome)
        columns = [[row[place] for row in rows] for place in range(len(aims))]
        if found.word == "reached":
            unknowns = self.fractions(found.unknowns, len(aims))
            weights = self.fractions(found.weights, len(rows))
            self.assertTrue(is_lowest(found.total))
            total = worth_of(found.total)
            self.assertTrue(all(dotted(row, unknowns) <= bound for row, bound in zip(rows, bounds)))
            self.assertEqual(dotted(aims, unknowns), total)
            self.assertTrue(all(dotted(weights, column) >= aim for column, aim in zip(columns, aims)))
            self.assertEqual(dotted(weights, bounds), total)
        elif found.word == "none":
            self.assertEqual([found.total, found.unknowns], [None, None])
            weights = self.fractions(found.weights, len(rows))
            self.assertTrue(all(dotted(weights, column) >= 0 for column in columns))
            self.assertLess(dotted(weights, bounds), 0)
        else:
            self.assertEqual([found.word, found.total, found.unknowns, found.weights], ["open", None, None, None])
        return found.word


class ProgramTest(OutcomeTest):
    def check_open(self, aims, rows, bounds):
        """Some unknowns fit, and some direction leads on without end."""
        self.assertEqual(self.check([0] * len(aims), rows, bounds), "reached")
        more = [list(row) for row in rows] + [[-aim for aim in aims]]
        self.assertEqual(self.check([0] * len(aims), more, [0] * len(rows) + [-1]), "reached")

    def test_small_programs(self):
        chooser = chooser_of(111)
        words = collections.Counter()
        for _ in range(3000):
            k, m, most = chooser.randint(0, 5), chooser.randint(0, 5), chooser.choice((1, 2, 5))
            aims = [chooser.randint(-most, most) for _ in range(k)]
            rows = [[chooser.randint(-most, most) for _ in range(k)] for _ in range(m)]
            bounds = [chooser.randint(-most, most) for _ in range(m)]
            if chooser.random() < 0.3:
                bounds = [0] * m
            word = self.check(aims, rows, bounds)
            if word == "open":
                self.check_open(aims, rows, bounds)
            words[word] += 1
        self.assertGreater(min(words[word] for word in ("reached", "open", "none")), 300)

    def test_no_rows_and_no_unknowns(self):
        for aims, rows, bounds, told in (
            ((), (), (), ["reached", (0, 1), (), ()]),
            ((-1, 0), [], [], ["reached", (0, 1), ((0, 1), (0, 1)), ()]),
            ((0, 1), (), (), ["open", None, None, None]),
            ((), [()], [0], ["reached", (0, 1), (), ((0, 1),)]),
            ((), [(), []], [3, 0], ["reached", (0, 1), (), ((0, 1), (0, 1))]),
        ):
            self.check(aims, rows, bounds)
            found = greatest_sum(aims, rows, bounds)
            self.same([found.word, found.total, found.unknowns, found.weights], told)
        self.assertEqual(self.check((), [(), ()], [0, -1]), "none")

    def test_known_ones(self):
        for aims, rows, bounds, word, total in (
            ((1,), [(1,)], [5], "reached", (5, 1)),
            ((3,), [(2,)], [5], "reached", (15, 2)),
            ((-1,), [(-2,)], [-5], "reached", (-5, 2)),
            ((1,), [(-1,)], [-5], "open", None),
            ((1,), [(1,), (-1,)], [2, -3], "none", None),
            ((0,), [(1,), (-1,)], [3, -3], "reached", (0, 1)),
            ((1, 1), [(1, -1), (-1, 1)], [0, 0], "open", None),
            ((10 ** 60,), [(1,)], [10 ** 60], "reached", (10 ** 120, 1)),
        ):
            found = greatest_sum(aims, rows, bounds)
            self.same([found.word, found.total], [word, total])
            self.check(aims, rows, bounds)

    def test_programs_that_make_some_rules_go_round(self):
        rows = [(1, -11, -5, 18), (1, -3, -1, 2), (2, 0, 0, 0)]
        self.same(greatest_sum((10, -57, -9, -24), rows, (0, 0, 2)).total, (1, 1))
        self.check((10, -57, -9, -24), rows, (0, 0, 2))
        self.check((75, -15000, 2, -600), [(25, -6000, -4, 900), (50, -9000, -2, 300), (0, 0, 1, 0)], (0, 0, 1))

    def test_equal_arguments_give_equal_attributes(self):
        one, two = (greatest_sum([1, 2], [[1, 1], [2, 1]], [4, 5]) for _ in range(2))
        self.assertEqual(vars(one), vars(two))
        self.assertIsNot(one, two)
        self.assertNotIn("__eq__", vars(Outcome))

    def test_outcome(self):
        found = Outcome("a", "b", "c", "d")
        self.assertEqual(vars(found), {"word": "a", "total": "b", "unknowns": "c", "weights": "d"})


class ErrorTest(DiceTest):
    def test_errors_in_order(self):
        check_row(self, lambda value: greatest_sum(value, None, None))
        check_rows(self, lambda value: greatest_sum((1, 2), value, None))
        check_row(self, lambda value: greatest_sum((1, 2), [(1, 2)], value))
        self.fails(OtherSize, {"first": 3, "second": 2}, greatest_sum, (1, 2, 3), [(1, 2)], (1, 2))
        self.fails(OtherSize, {"first": 2, "second": 1}, greatest_sum, (1, 2), [(1, 2), (3, 4)], (1,))
        self.fails(OtherSize, {"first": 0, "second": 1}, greatest_sum, (1, 2), [], (1,))
        self.fails(OtherSize, {"first": 1, "second": 0}, greatest_sum, (), [()], ())


class SizeTest(OutcomeTest):
    def soon(self, aims, rows, bounds):
        """The outcome of a great program, checked, within the limit of time."""
        self.ends_soon(10, greatest_sum, aims, rows, bounds)
        return self.check(aims, rows, bounds)

    def test_any_rows(self):
        chooser = chooser_of(112)
        most = 10 ** 12
        for low in (-most, -most // 9, 0):
            for _ in range(5):
                self.soon(
                    [chooser.randint(-most, most) for _ in range(24)],
                    [[chooser.randint(low, most) for _ in range(24)] for _ in range(16)],
                    [chooser.randint(-most, most) for _ in range(16)],
                )
                self.soon(
                    [chooser.randint(0, most) for _ in range(24)],
                    [[chooser.randint(low, most) for _ in range(24)] for _ in range(15)] + [[1] * 24],
                    [0] * 15 + [most],
                )

    def test_rows_on_which_some_rules_take_very_long(self):
        for base in (2, 3, 5):
            rows = [[2 * base ** (i - j) if j < i else int(i == j) for j in range(16)] for i in range(16)]
            bounds = [(base * base) ** i for i in range(16)]
            self.assertEqual(self.soon([base ** (15 - j) for j in range(16)], rows, bounds), "reached")

    def test_told_sums(self):
        chooser = chooser_of(113)
        for _ in range(4):
            rows = [[chooser.randint(-10 ** 12, 10 ** 12) for _ in range(24)] for _ in range(8)]
            fitting = [chooser.randint(0, 4) for _ in range(24)]
            sums = [dotted(row, fitting) for row in rows]
            turned = [[-entry for entry in row] for row in rows]
            aims = [chooser.randint(-10 ** 12, 0) for _ in range(24)]
            self.assertEqual(self.soon(aims, rows + turned, sums + [-told for told in sums]), "reached")

    def test_skew_tables(self):
        chooser = chooser_of(114)
        for _ in range(4):
            table = [[0] * 16 for _ in range(16)]
            for i in range(16):
                for j in range(i):
                    table[i][j] = chooser.randint(-10 ** 12, 10 ** 12)
                    table[j][i] = -table[i][j]
            self.soon([1] * 16, table[:15] + [[1] * 16], [0] * 15 + [1])
            self.soon([1] * 16, table, [0] * 16)


if __name__ == "__main__":
    unittest.main()
