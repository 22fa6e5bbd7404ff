"""Points 32, 33, 40 and 44: the rank of a table, planes, and inverse signs."""

import unittest

from dicewins.cups import Cup
from dicewins.errors import BadNumber
from dicewins.fewest import fewest_ranks, thrown_wide
from dicewins.planes import inverse_signs, table_rank, terms_of
from dicewins.tables import table_of, table_sum, table_times
from dicewins.weighing import tie_mix
from helping import (
    NO_INTS, DiceTest, all_tables, chooser_of, in_order, is_lowest, many_tables, some_dice, some_table, sum_of_planes,
    table_of_pairs, worth_of,
)
from test_linear import rank_told
from test_tables import PAIR, RING, check_tables


class RankTest(DiceTest):
    def test_small_tables(self):
        for table in all_tables(4, 1):
            self.same(table_rank(table), rank_told(table))

    def test_tables_of_each_sort(self):
        for table in many_tables(chooser_of(211)):
            rank = rank_told(table)
            self.assertEqual(rank % 2, 0)
            self.same(table_rank(table), rank)
            self.same(table_rank(table_times(table, 10 ** 6)), rank)

    def test_known_ones(self):
        self.same([table_rank(table) for table in ([[0]], PAIR, RING, in_order(5), in_order(6))], [0, 2, 2, 4, 6])

    def test_not_more_than_the_ranks_of_a_cup(self):
        chooser = chooser_of(212)
        for _ in range(200):
            ranks = chooser.randint(1, 6)
            found = table_rank(table_of(some_dice(chooser, chooser.randint(1, 8), ranks, 3)))
            self.assertLessEqual(found, ranks - ranks % 2)

    def test_of_a_sum(self):
        chooser = chooser_of(213)
        for _ in range(200):
            many = chooser.randint(1, 7)
            one, two = (sum_of_planes(chooser, many, chooser.randint(0, 2), 2) for _ in range(2))
            both = table_sum(one, two)
            self.assertLessEqual(table_rank(both), table_rank(one) + table_rank(two))
            self.assertLessEqual(fewest_ranks(both), table_rank(one) + table_rank(two) + 2)

    def test_unchanged(self):
        chooser = chooser_of(214)
        for table in many_tables(chooser, 5):
            many = len(table)
            order = chooser.sample(range(many), many)
            counts = [chooser.randint(1, 9) for _ in range(many)]
            for other in (
                tuple(tuple(table[i][j] for j in order) for i in order),
                tuple(tuple(table[i][j] * counts[i] * counts[j] for j in range(many)) for i in range(many)),
                table_times(table, 7),
            ):
                self.assertEqual(table_rank(other), table_rank(table))
                self.assertEqual(fewest_ranks(other), fewest_ranks(table))


class OneMoreTest(DiceTest):
    def test_four_pairs_occur(self):
        seen = set()
        for table in all_tables(4, 1):
            fewer = tuple(row[:3] for row in table[:3])
            if table_rank(fewer):
                step = (table_rank(table) - table_rank(fewer), fewest_ranks(table) - fewest_ranks(fewer))
                self.assertIn(step, ((0, 0), (0, 2), (2, 0), (2, 2)))
                seen.add(step)
        self.assertEqual(len(seen), 4)

    def test_one_more_die_for_a_table_all_zero(self):
        for table in all_tables(4, 2):
            if not any(any(row[:3]) for row in table[:3]):
                last = table[3][:3]
                told = 1 if not any(last) else 2 if min(last) > 0 or max(last) < 0 else 4
                self.assertEqual(fewest_ranks(table), told)


class TermsTest(DiceTest):
    def check(self, table):
        """The planes add up to the table, and there are half as many as its rank."""
        terms = terms_of(table)
        self.assertIs(type(terms), list)
        self.assertEqual(2 * len(terms), table_rank(table))
        planes = []
        for term in terms:
            self.assertIs(type(term), tuple)
            first, second = term
            for row in (first, second):
                self.assertIs(type(row), tuple)
                self.assertEqual(len(row), len(table))
                self.assertTrue(all(is_lowest(entry) for entry in row))
            planes.append([[worth_of(entry) for entry in row] for row in term])
        for i, row in enumerate(table):
            for j, entry in enumerate(row):
                self.assertEqual(sum(u[i] * v[j] - v[i] * u[j] for u, v in planes), entry)

    def test_tables(self):
        for table in all_tables(3, 2):
            self.check(table)
        for table in many_tables(chooser_of(215)):
            self.check(table)

    def test_no_terms(self):
        for many in (1, 2, 5):
            self.same(terms_of(in_order(many, 0)), [])
        first = terms_of(PAIR)
        first.clear()
        self.assertEqual(len(terms_of(PAIR)), 1)

    def test_great_tables(self):
        chooser = chooser_of(216)
        table = some_table(chooser, 40, 10 ** 6)
        self.same(self.ends_soon(5, table_rank, table), 40)
        self.same(self.ends_soon(5, table_rank, some_table(chooser, 39, 10 ** 6)), 38)
        self.same(self.ends_soon(5, table_rank, sum_of_planes(chooser, 40, 7, 99)), 14)
        self.assertEqual(len(self.ends_soon(5, terms_of, table)), 20)
        self.check(table)
        self.check(table_of(thrown_wide(some_table(chooser, 8, 10 ** 6), list(range(1, 9))).cup))

    def test_errors(self):
        check_tables(self, table_rank)
        check_tables(self, terms_of)


class SignsTest(DiceTest):
    def test_inverse(self):
        for ranks in (2, 4, 6, 12, 40):
            signs = [[(i > j) - (i < j) for j in range(ranks)] for i in range(ranks)]
            self.assertEqual(
                tuple(map(tuple, signs)), table_of([[int(i == j) for j in range(ranks)] for i in range(ranks)])
            )
            found = self.ends_soon(2, inverse_signs, ranks)
            for i in range(ranks):
                for k in range(ranks):
                    self.assertEqual(sum(signs[i][j] * found[j][k] for j in range(ranks)), -int(i == k))

    def test_known_ones(self):
        self.same(inverse_signs(2), ((0, -1), (1, 0)))
        self.same(inverse_signs(4), table_of_pairs(4, (-1, 1, -1, -1, 1, -1)))

    def test_errors(self):
        for value in NO_INTS + (0, 1, 3, 39, -2):
            self.fails(BadNumber, {"name": "ranks"}, inverse_signs, value)


class FewRanksTest(DiceTest):
    def test_no_tie_on_as_few_ranks_as_the_rank(self):
        chooser = chooser_of(217)
        for _ in range(300):
            ranks = chooser.randint(2, 5)
            cup = Cup(some_dice(chooser, chooser.randint(2, 6), ranks, 2))
            table = table_of(cup)
            self.assertGreaterEqual(ranks, fewest_ranks(table))
            if table_rank(table) >= max(2, ranks - 1):
                self.assertIsNone(tie_mix(table))


if __name__ == "__main__":
    unittest.main()
