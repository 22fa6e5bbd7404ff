"""Points 46, 56 and 57: best mixes."""

import itertools
import unittest

from dicewins.best import beaten_by, best_mix, best_within, is_best, leaders
from dicewins.dice import faces, mixed_die, stands_over
from dicewins.errors import BadSet, OtherSize
from dicewins.fewest import thrown_wide
from dicewins.programs import greatest_sum
from dicewins.sorting import full_mix
from dicewins.tables import table_of, table_times
from dicewins.throws import beats, lead
from dicewins.weighing import Mix, Weighing
from helping import (
    NO_INTS, NO_ROWS, DiceTest, all_tables, chooser_of, digits_of, in_order, many_tables, some_dice, some_table,
    worth_of, worth_told,
)
from test_tables import PAIR, RING, check_tables
from test_weighing import check_mix, check_short_mix


def mix_over_all(table, numbers):
    """A mix to which all dice of the set lose, as a row of Fractions, None if there is none.

    While such a mix is there, no mix of dice of the set alone is best: it would lose to this one.
    """
    rows = [[table[number][die] for die in range(len(table))] for number in numbers]
    found = greatest_sum([0] * len(table), rows, [-1] * len(numbers))
    return None if found.unknowns is None else [worth_of(entry) for entry in found.unknowns]


class AskedTest(DiceTest):
    def test_by_their_words(self):
        chooser = chooser_of(241)
        for table in many_tables(chooser, 6):
            mix = [chooser.choice((0, 0, 1, 3)) for _ in table]
            mix[chooser.randrange(len(table))] = 2
            worth = worth_told(table, mix)
            for told in (mix, tuple(mix), Mix(mix), Weighing(mix)):
                self.assertIs(is_best(table, told), max(worth) <= 0)
                self.same(beaten_by(table, told), tuple(i for i, entry in enumerate(worth) if entry < 0))
                self.same(leaders(table, told), tuple(i for i, entry in enumerate(worth) if entry > 0))

    def test_of_a_cup(self):
        chooser = chooser_of(242)
        for _ in range(200):
            dice = some_dice(chooser, 3, 4, 2)
            weights = [chooser.randint(0, 2) for _ in range(2)] + [1]
            mixed = mixed_die(weights, *dice)
            table = table_of(dice)
            self.assertIs(is_best(table, weights), not any(beats(die, mixed) for die in dice))
            self.same(beaten_by(table, weights), tuple(i for i, die in enumerate(dice) if beats(mixed, die)))

    def test_known_ones(self):
        self.same([is_best([[0]], (3,)), beaten_by([[0]], (1,)), leaders([[0]], (1,))], [True, (), ()])
        self.same([is_best(PAIR, (0, 1)), beaten_by(PAIR, (0, 1)), leaders(PAIR, (0, 1))], [False, (), (0,)])
        self.same(beaten_by(in_order(5), (1, 0, 0, 0, 0)), (1, 2, 3, 4))


class BestTest(DiceTest):
    def check(self, table):
        """The mix that is returned is best, and so are its ties."""
        mix = best_mix(table)
        check_short_mix(self, mix, len(table))
        self.assertLessEqual(digits_of(mix.entries), 800)
        worth = worth_told(table, mix.entries)
        self.assertLessEqual(max(worth), 0)
        self.assertTrue(all(worth[number] == 0 for number in mix.taken_dice()))
        return worth

    def test_small_tables(self):
        for most, many in ((3, 2), (2, 3), (1, 4)):
            for table in all_tables(many, most):
                self.check(table)

    def test_tables_of_each_sort(self):
        chooser = chooser_of(243)
        for table in many_tables(chooser):
            worth = self.check(table)
            self.check(table_times(table, 10 ** 6))
            # against any mix the dice of a best mix lose nothing, and nothing between two best mixes
            other = [chooser.randint(0, 9) for _ in table]
            self.assertLessEqual(sum(a * b for a, b in zip(other, worth)), 0)
            self.assertEqual(sum(a * b for a, b in zip(full_mix(table), worth)), 0)

    def test_known_ones(self):
        self.same(best_mix([[0]]).entries, (1,))
        self.same(best_mix(RING).entries, (1, 1, 1))
        for many in range(1, 9):
            self.same(best_mix(in_order(many)).entries, (1,) + (0,) * (many - 1))
            self.same(best_mix(in_order(many, -(10 ** 6))).entries, (0,) * (many - 1) + (1,))

    def test_great_tables(self):
        chooser = chooser_of(244)
        for _ in range(10):
            table = some_table(chooser, 8, 10 ** 6)
            self.ends_soon(2, best_mix, table)
            self.check(table)
            self.check(table_of(thrown_wide(table, [10 ** 12 - k for k in range(8)]).cup))
            self.assertTrue(is_best(table, best_mix(table_of(thrown_wide(table, [1] * 8).cup))))

    def test_tables_with_the_same_mixes(self):
        chooser = chooser_of(245)
        for table in many_tables(chooser, 5):
            many = len(table)
            counts = [chooser.randint(1, 5) for _ in range(many)]
            other = [[table[i][j] * counts[i] * counts[j] for j in range(many)] for i in range(many)]
            weights = [120 * entry for entry in best_mix(other)]
            self.assertTrue(is_best(table, [entry * count for entry, count in zip(weights, counts)]))
            self.assertTrue(is_best(other, [60 * entry // count for entry, count in zip(best_mix(table), counts)]))
            order = chooser.sample(range(many), many)
            moved = [[table[i][j] for j in order] for i in order]
            self.assertTrue(is_best(moved, [best_mix(table)[i] for i in order]))


class WithinTest(DiceTest):
    def check(self, table, numbers):
        """A best mix of dice of the set alone; whether there is one."""
        found = best_within(table, numbers)
        if found is None:
            return False
        check_short_mix(self, found, len(table))
        self.assertLessEqual(max(worth_told(table, found.entries)), 0)
        self.assertEqual(set(found.taken_dice()) - set(numbers), set())
        return True

    def test_each_set(self):
        chooser = chooser_of(246)
        seen = []
        for table in chooser.sample(list(all_tables(4, 1)), 100) + list(all_tables(3, 1)):
            for many in range(len(table) + 1):
                for numbers in itertools.combinations(range(len(table)), many):
                    seen.append(self.check(table, numbers[::-1]))
                    over = mix_over_all(table, numbers)
                    self.assertEqual(over is None, seen[-1])
                    if over is not None:
                        self.assertGreaterEqual(min(over), 0)
                        self.assertTrue(all(worth_told(table, over)[number] < 0 for number in numbers))
        self.assertGreater(min(seen.count(True), seen.count(False)), 200)

    def test_all_and_none(self):
        for table in many_tables(chooser_of(247)):
            self.assertIsNone(best_within(table, ()))
            self.assertIsNone(best_within(table, []))
            self.assertTrue(self.check(table, list(range(len(table)))))

    def test_known_ones(self):
        self.same(best_within(PAIR, [0]).entries, (1, 0))
        self.assertIsNone(best_within(PAIR, (1,)))
        self.assertIsNone(best_within(RING, (2, 0)))
        self.same(best_within(in_order(4, 0), (2,)).entries, (0, 0, 1, 0))

    def test_standing_over(self):
        chooser = chooser_of(248)
        for _ in range(150):
            dice = some_dice(chooser, 4, 3, 2)
            table = table_of(dice)
            mix = list(best_mix(table))
            for i, j in itertools.permutations(range(4), 2):
                if stands_over(dice[i], dice[j]):
                    more = [entry * faces(dice[i]) for entry in mix]
                    more[i] += mix[j] * faces(dice[j])
                    more[j] = 0
                    self.assertTrue(is_best(table, more))
                    self.assertTrue(self.check(table, [number for number in range(4) if number != j]))

    def test_what_beats_all_that_a_mix_takes(self):
        chooser = chooser_of(249)
        seen = 0
        for _ in range(300):
            dice = some_dice(chooser, 3, 4, 2)
            weights = (chooser.randint(0, 3), chooser.randint(1, 3))
            if all(beats(dice[2], dice[number]) for number in (0, 1) if weights[number]):
                self.assertGreater(lead(dice[2], mixed_die(weights, *dice[:2])), 0)
                seen += 1
        self.assertGreater(seen, 20)


class ErrorTest(DiceTest):
    def test_errors_in_order(self):
        for call in (is_best, beaten_by, leaders):
            check_tables(self, lambda value: call(value, None))
            check_mix(self, lambda value: call(PAIR, value))
            self.fails(OtherSize, {"first": 2, "second": 3}, call, PAIR, (1, 0, 1))
            self.fails(OtherSize, {"first": 3, "second": 2}, call, RING, Weighing((1, 0)))
        check_tables(self, best_mix)
        check_tables(self, lambda value: best_within(value, None))
        for value in NO_ROWS:
            self.fails(BadSet, {"place": -1}, best_within, PAIR, value)
        for value in NO_INTS + (-1, 2, 0):
            self.fails(BadSet, {"place": 1}, best_within, PAIR, (0, value))


if __name__ == "__main__":
    unittest.main()
