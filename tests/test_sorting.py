"""Points 47, 48 and 50: which dice the best mixes take."""

import unittest

from dicewins.fewest import fewest_ranks, thrown_wide
from dicewins.planes import table_rank
from dicewins.single import only_mix
from dicewins.sorting import all_tie_mix, can_be_taken, full_mix, none_against, sorted_mixes
from dicewins.tables import table_of, table_times
from helping import (
    DiceTest, all_tables, chooser_of, digits_of, in_order, many_tables, some_table, steps_from, worth_told,
)
from test_tables import PAIR, RING, check_tables
from test_weighing import check_short_mix, check_short_weighing


class SortTest(DiceTest):
    def best(self, table, mix):
        """The worth of a mix that must be short and best."""
        check_short_mix(self, mix, len(table))
        self.assertLessEqual(digits_of(mix.entries), 800)
        worth = worth_told(table, mix.entries)
        self.assertLessEqual(max(worth), 0)
        return worth

    def check(self, table):
        """All that is told of the dice that are in and those that are out; the set of those that are in."""
        many = len(table)
        found = sorted_mixes(table)
        self.assertIs(type(found), tuple)
        self.assertEqual(len(found), many)
        taken = []
        for number, pair in enumerate(found):
            self.assertIs(type(pair), tuple)
            word, mix = pair
            worth = self.best(table, mix)
            if mix[number]:
                self.assertEqual(word, "in")
                taken.append(number)
            else:
                self.assertEqual(word, "out")
                self.assertLess(worth[number], 0)
        self.same(can_be_taken(table), tuple(taken))
        full = full_mix(table)
        worth = self.best(table, full)
        self.same(full.taken_dice(), tuple(taken))
        self.assertEqual([number for number in range(many) if worth[number] == 0], taken)
        self.check_all(table, len(taken) == many)
        return tuple(taken)

    def check_all(self, table, whole):
        """A mix that takes all dice and ties with all is there exactly if all are in."""
        tie, against = all_tie_mix(table), none_against(table)
        if whole:
            self.best(table, tie)
            self.assertGreater(min(tie.entries), 0)
            self.assertFalse(any(worth_told(table, tie.entries)))
            self.assertIsNone(against)
            if any(any(row) for row in table):
                self.assertEqual(fewest_ranks(table), table_rank(table) + 2)
        else:
            self.assertIsNone(tie)
            check_short_weighing(self, against, len(table))
            worth = worth_told(table, against.entries)
            self.assertTrue(min(worth) >= 0 and any(worth))

    def test_small_tables(self):
        seen = [self.check(table) for many, most in ((1, 0), (2, 3), (3, 2), (4, 1)) for table in all_tables(many, most)]
        self.assertEqual({len(taken) for taken in seen}, {1, 2, 3, 4})

    def test_tables_of_each_sort(self):
        for table in many_tables(chooser_of(251)):
            taken = self.check(table)
            for times in (1000, 10 ** 6):
                self.assertEqual(can_be_taken(table_times(table, times)), taken)

    def test_known_ones(self):
        level = in_order(3, 0)
        self.same(can_be_taken([[0]]), (0,))
        self.same([can_be_taken(level), full_mix(level).entries, all_tie_mix(level).taken_dice()], [(0, 1, 2),
                  full_mix(level).entries, (0, 1, 2)])
        self.assertIsNone(none_against(level))
        self.same([word for word, _ in sorted_mixes(RING)], ["in"] * 3)
        self.same([word for word, _ in sorted_mixes(PAIR)], ["in", "out"])
        self.same([mix.entries for _, mix in sorted_mixes(in_order(4))], [(1, 0, 0, 0)] * 4)
        self.same(can_be_taken(((0, 0, 1), (0, 0, 0), (-1, 0, 0))), (0, 1))

    def test_paths_within_the_one_best_mix(self):
        seen = 0
        for table in many_tables(chooser_of(252)):
            mix = only_mix(table)
            if mix is not None and len(mix.taken_dice()) > 1:
                taken = mix.taken_dice()
                for start in taken:
                    reached = steps_from(start, lambda here: [there for there in taken if table[here][there] > 0])
                    self.assertEqual(set(reached), set(taken))
                seen += 1
        self.assertGreater(seen, 20)

    def test_great_tables(self):
        chooser = chooser_of(253)
        for _ in range(5):
            table = some_table(chooser, 8, 10 ** 6)
            for call in (sorted_mixes, can_be_taken, full_mix, all_tie_mix, none_against):
                self.ends_soon(3, call, table)
            self.check(table)
            self.check(table_of(thrown_wide(table, [10 ** 12 - k for k in range(8)]).cup))

    def test_errors(self):
        for call in (sorted_mixes, can_be_taken, full_mix, all_tie_mix, none_against):
            check_tables(self, call)


if __name__ == "__main__":
    unittest.main()
