"""Points 36 to 39: the fewest ranks, and the cups that have them."""

import math
import unittest

from dicewins.cups import Cup
from dicewins.dice import faces
from dicewins.errors import OtherSize
from dicewins.fewest import Thrown, face_row, fewest_ranks, thrown, thrown_wide, thrown_with
from dicewins.making import cup_for
from dicewins.planes import table_rank
from dicewins.tables import table_of, table_times, throws_times
from dicewins.weighing import Mix, Weighing, below_all, tie_mix
from helping import (
    DiceTest, all_tables, chooser_of, counted_table, digits_of, in_order, many_tables, odd_table, some_table,
    sum_of_planes, table_of_pairs,
)
from test_linear import rank_told
from test_tables import PAIR, RING, check_tables
from test_weighing import check_counts, check_short_mix, check_short_weighing


class ThrownTest(DiceTest):
    def check(self, found, table):
        """The cup throws a multiple of the table that is a square, and the reason holds."""
        self.assertIs(type(found), Thrown)
        self.assertIs(type(found.cup), Cup)
        self.assertIs(type(found.times), int)
        self.assertEqual(throws_times(found.cup, table), found.times)
        self.assertEqual(math.isqrt(found.times) ** 2, found.times)
        self.assertLessEqual(digits_of(*found.cup), 800)
        if tie_mix(table) is None:
            check_short_weighing(self, found.reason, len(table))
            self.assertTrue(found.reason.is_below_all(table))
        else:
            check_short_mix(self, found.reason, len(table))
            self.assertTrue(found.reason.ties_with_all(table))
        if not any(any(row) for row in table):
            self.same(found.times, 1)

    def check_ratio(self, cup, row):
        """The face numbers are in the ratio of the row."""
        counts = [faces(die) for die in cup]
        for count, entry in zip(counts, row):
            self.assertEqual(count * row[0], counts[0] * entry)

    def check_table(self, table, row):
        """All that is told of the cups for a table."""
        rank = rank_told(table)
        told = 1 if not any(any(line) for line in table) else rank if tie_mix(table) is None else rank + 2
        self.same(fewest_ranks(table), told)
        found = thrown(table)
        self.check(found, table)
        self.assertEqual(found.cup.ranks, told)
        if told == 1:
            self.same(found.cup.dice, ((1,),) * len(table))
        wide = thrown_wide(table, row)
        self.check(wide, table)
        self.assertEqual(wide.cup.ranks, rank + 2)
        self.check_ratio(wide.cup, row)
        for die in wide.cup:
            self.assertEqual(2 * sum(j * entry for j, entry in enumerate(die)), (rank + 1) * sum(die))
        for counts in (row, [1] * len(table), face_numbers(table)):
            if counts is not None:
                self.check_with(table, counts, rank)

    def check_with(self, table, row, rank):
        """A cup with the face numbers is there exactly if they are a face row."""
        fits = rank > 0 and rank_told(list(table) + [list(row)]) == rank
        self.assertIs(face_row(table, row), fits)
        found = thrown_with(table, row)
        if not fits:
            self.assertIsNone(found)
            return
        self.check(found, table)
        self.assertEqual(found.cup.ranks, rank)
        self.check_ratio(found.cup, row)


def face_numbers(table):
    """A face row of the table, None if it has none."""
    below = below_all(table)
    return None if below is None else below.worth(table).entries


class CupTest(ThrownTest):
    def test_small_tables(self):
        for many, most in ((1, 0), (2, 4), (3, 2)):
            for table in all_tables(many, most):
                self.check_table(table, list(range(1, many + 1)))
        chooser = chooser_of(221)
        for table in chooser.sample(list(all_tables(4, 1)), 150):
            self.check_table(table, [chooser.randint(1, 9) for _ in range(4)])

    def test_tables_of_each_sort(self):
        chooser = chooser_of(222)
        for table in many_tables(chooser):
            self.check_table(table, [chooser.choice((1, 2, 3, 10 ** 12)) for _ in table])

    def test_multiples(self):
        chooser = chooser_of(223)
        for many in (2, 3, 4, 7, 8):
            table = some_table(chooser, many, 5)
            for times in (1000, 10 ** 6):
                self.check_table(table_times(table, times), [1] * many)
                self.assertEqual(fewest_ranks(table_times(table, times)), fewest_ranks(table))

    def test_known_fewest_ranks(self):
        order = in_order(5)
        for table, told in (
            ([[0]], 1), (in_order(4, 0), 1), (PAIR, 2), (RING, 4), (order, 4), (in_order(6), 6), (in_order(7), 6),
            (table_of_pairs(3, (1, 1, 0)), 2), (table_of_pairs(3, (0, 1, -1)), 4),
            (table_of_pairs(4, (1, 1, 0, 0, 1, 1)), 4),
        ):
            self.same(fewest_ranks(table), told)

    def test_rows_that_are_there_and_not(self):
        self.assertIs(face_row(PAIR, (2, 3)), True)
        self.assertIs(face_row(RING, (1, 1, 1)), False)
        self.assertIs(face_row([[0]], (1,)), False)
        self.assertIs(face_row(((0, 0), (0, 0)), (1, 1)), False)
        self.assertIs(face_row(in_order(3), (1, 1, 1)), False)
        self.assertIs(face_row(in_order(3), (1, 2, 1)), True)
        self.assertIs(face_row(in_order(3), Weighing((1, 2, 1))), True)
        self.assertIs(face_row(in_order(3), Mix((1, 1, 3))), False)
        self.assertIsNone(thrown_with(RING, (1, 1, 1)))
        self.assertIsNone(thrown_with(in_order(4, 0), (1, 1, 1, 1)))
        self.assertEqual(thrown_with(PAIR, Weighing((2, 3))).cup.ranks, 2)

    def test_wide_for_a_table_all_zero(self):
        found = thrown_wide(in_order(3, 0), (1, 5, 2))
        self.check(found, in_order(3, 0))
        self.same([found.cup.ranks, found.times], [2, 1])
        self.check_ratio(found.cup, (1, 5, 2))
        self.assertTrue(all(low == high for low, high in found.cup))
        self.assertEqual(thrown_wide([[0]], Mix((4,))).cup.ranks, 2)

    def test_never_fewer(self):
        chooser = chooser_of(224)
        for _ in range(60):
            table = some_table(chooser, chooser.randint(1, 5), 3)
            self.assertGreaterEqual(cup_for(table).ranks, fewest_ranks(table))

    def test_face_numbers_of_cups_on_the_rank(self):
        chooser = chooser_of(225)
        seen = 0
        for _ in range(400):
            ranks = chooser.choice((2, 4))
            dice = [[chooser.randint(0, 3) for _ in range(ranks - 1)] + [1] for _ in range(chooser.randint(2, 6))]
            table = counted_table(dice)
            if table_rank(table) == ranks:
                self.assertIs(face_row(table, [sum(die) for die in dice]), True)
                seen += 1
        self.assertGreater(seen, 100)


class PassedOnTest(ThrownTest):
    def test_great_tables_and_what_they_gave(self):
        chooser = chooser_of(226)
        for table in (
            some_table(chooser, 8, 10 ** 6), some_table(chooser, 7, 10 ** 6), odd_table(chooser, 8, 10 ** 6),
            sum_of_planes(chooser, 8, 2, 700), in_order(8, 10 ** 6),
        ):
            row = [10 ** 12 - chooser.randint(0, 99) for _ in table]
            for call, told in ((thrown, (table,)), (thrown_wide, (table, row)), (thrown_with, (table, row))):
                found = self.ends_soon(2, call, *told)
                if found is not None:
                    more = table_of(found.cup)
                    self.check(self.ends_soon(2, thrown, more), more)
                    self.check(self.ends_soon(2, thrown_wide, more, row), more)
                    self.same(fewest_ranks(more), fewest_ranks(table))
            counts = face_numbers(table)
            if counts is not None:
                self.check_with(table, counts, table_rank(table))
                self.check_with(table_of(thrown(table).cup), counts, table_rank(table))

    def test_passed_on_again_and_again(self):
        chooser = chooser_of(227)
        for many in (6, 7, 8):
            table = some_table(chooser, many, 10 ** 6)
            for number in range(8):
                row = [chooser.randint(1, 99) for _ in range(many)]
                found = self.ends_soon(2, thrown_wide, table, row) if number % 2 else self.ends_soon(2, thrown, table)
                self.check(found, table)
                table = table_of(found.cup)

    def test_attributes(self):
        self.assertEqual(vars(Thrown(1, 2, 3)), {"cup": 1, "times": 2, "reason": 3})
        self.assertNotIn("__eq__", vars(Thrown))
        one, two = thrown(RING), thrown(RING)
        self.assertEqual((one.cup, one.times, one.reason), (two.cup, two.times, two.reason))


class ErrorTest(DiceTest):
    def test_tables(self):
        check_tables(self, fewest_ranks)
        check_tables(self, thrown)
        for call in (face_row, thrown_with, thrown_wide):
            check_tables(self, lambda value: call(value, None))

    def test_rows(self):
        for call in (face_row, thrown_with, thrown_wide):
            check_counts(self, lambda value: call(PAIR, value))
            self.fails(OtherSize, {"first": 2, "second": 3}, call, PAIR, (1, 1, 1))
            self.fails(OtherSize, {"first": 3, "second": 1}, call, RING, Mix((1,)))


if __name__ == "__main__":
    unittest.main()
