"""Points 49 and 50: whether there is just one best mix."""

import unittest

from dicewins.best import best_mix
from dicewins.fewest import fewest_ranks, thrown_wide
from dicewins.planes import table_rank
from dicewins.single import only_mix, two_mixes
from dicewins.sorting import can_be_taken, full_mix
from dicewins.tables import table_of, table_times
from helping import DiceTest, all_tables, chooser_of, digits_of, in_order, many_tables, some_table, worth_told
from test_linear import rank_told
from test_tables import PAIR, RING, check_tables
from test_weighing import check_short_mix


class SingleTest(DiceTest):
    def check(self, table):
        """One best mix or two, as the ranks tell; whether there is just one."""
        taken = can_be_taken(table)
        single = rank_told([[table[i][j] for j in taken] for i in taken]) == len(taken) - 1
        one, two = only_mix(table), two_mixes(table)
        if single:
            self.assertIsNone(two)
            check_short_mix(self, one, len(table))
            self.assertEqual([one, one], [best_mix(table), full_mix(table)])
            self.assertEqual(one.taken_dice(), taken)
            self.assertEqual(len(taken) % 2, 1)
            if any(any(row) for row in table):
                told = len(table) + 1 if len(taken) == len(table) else rank_told(table)
                self.assertEqual(fewest_ranks(table), told)
        else:
            self.assertIsNone(one)
            self.assertIs(type(two), tuple)
            self.assertEqual(len(two), 2)
            for mix in two:
                check_short_mix(self, mix, len(table))
                self.assertLessEqual(max(worth_told(table, mix.entries)), 0)
                self.assertLessEqual(digits_of(mix.entries), 800)
            self.assertNotEqual(two[0], two[1])
        return single

    def test_small_tables(self):
        seen = [self.check(table) for many, most in ((1, 0), (2, 3), (3, 2), (4, 1)) for table in all_tables(many, most)]
        self.assertGreater(min(seen.count(True), seen.count(False)), 100)

    def test_tables_of_each_sort(self):
        for table in many_tables(chooser_of(261)):
            single = self.check(table)
            self.assertIs(self.check(table_times(table, 10 ** 6)), single)

    def test_each_best_mix_tells_it(self):
        for table in many_tables(chooser_of(262), 6):
            mix = best_mix(table)
            taken = mix.taken_dice()
            worth = worth_told(table, mix.entries)
            alone = rank_told([[table[i][j] for j in taken] for i in taken]) == len(taken) - 1
            others = all(worth[number] < 0 for number in range(len(table)) if number not in taken)
            self.assertIs(only_mix(table) is not None, alone and others)

    def test_known_ones(self):
        self.same([only_mix([[0]]).entries, two_mixes([[0]])], [(1,), None])
        self.assertIsNone(only_mix(in_order(2, 0)))
        self.same([only_mix(PAIR).entries, only_mix(RING).entries], [(1, 0), (1, 1, 1)])
        # all dice are taken, but the mixes of two ties can be shifted
        four = ((0, 1, -1, 0), (-1, 0, 1, 0), (1, -1, 0, 0), (0, 0, 0, 0))
        self.assertFalse(self.check(four))
        self.assertFalse(self.check(in_order(8, 0)))

    def test_great_tables(self):
        chooser = chooser_of(263)
        for _ in range(5):
            table = some_table(chooser, 8, 10 ** 6)
            self.ends_soon(3, only_mix, table)
            self.ends_soon(3, two_mixes, table)
            self.check(table)
            self.check(table_of(thrown_wide(table, [10 ** 12 - k for k in range(8)]).cup))
            # two dice that are like in all tell of many best mixes, with great weights
            rows = [0, 1, 2, 3, 4, 0, 1, 2]
            doubled = tuple(tuple(table[i][j] for j in rows) for i in rows)
            self.ends_soon(3, two_mixes, doubled)
            self.check(doubled)
            self.assertLess(table_rank(doubled), 6)

    def test_errors(self):
        check_tables(self, only_mix)
        check_tables(self, two_mixes)


if __name__ == "__main__":
    unittest.main()
