"""Points 51 to 55 and 58: pfaffians, odd tables and the rings inside."""

import itertools
import unittest
from fractions import Fraction

from dicewins.best import best_mix, is_best
from dicewins.cups import Cup
from dicewins.dice import faces
from dicewins.errors import BadNumber, BadTable, BadWeights
from dicewins.exchanges import exchange_way
from dicewins.fewest import face_row, fewest_ranks, thrown_wide
from dicewins.making import deck_for
from dicewins.pfaffs import left_out_row, mix_ring, odd_mix, odd_table_for, pfaffian
from dicewins.planes import table_rank
from dicewins.single import only_mix
from dicewins.tables import is_odd, sub_table, table_of, table_times
from dicewins.weighing import Mix, Weighing
from dicewins.words import word_table
from helping import (
    DiceTest, all_tables, chooser_of, in_order, is_short, many_tables, odd_table, some_dice, some_table, table_of_pairs,
    worth_told,
)
from test_linear import rank_told
from test_tables import ONE, PAIR, RING, check_tables
from test_weighing import check_mix, check_short_mix


def determinant(rows):
    """The determinant, in Fractions."""
    left = [[Fraction(entry) for entry in row] for row in rows]
    found = Fraction(1)
    while left:
        place = next((number for number, row in enumerate(left) if row[0]), None)
        if place is None:
            return 0
        pivot = left.pop(place)
        found *= pivot[0] * (-1) ** place
        left = [[entry - row[0] / pivot[0] * other for entry, other in zip(row, pivot)][1:] for row in left]
    return found


def told_pfaffian(rows):
    """The pfaffian, as the sum over all ways to put the dice in pairs, each with the sign of its crossings."""
    def ways(numbers):
        if not numbers:
            yield []
        for place in range(1, len(numbers)):
            for more in ways(numbers[1:place] + numbers[place + 1:]):
                yield [(numbers[0], numbers[place])] + more

    if len(rows) % 2:
        return 0
    total = 0
    for way in ways(list(range(len(rows)))):
        crossings = sum(a < c < b < d for a, b in way for c, d in way)
        part = (-1) ** crossings
        for i, j in way:
            part *= rows[i][j]
        total += part
    return total


def without(table, die):
    """The table without the die."""
    return [[entry for j, entry in enumerate(row) if j != die] for i, row in enumerate(table) if i != die]


class PfaffianTest(DiceTest):
    def test_tables_of_each_sort(self):
        for table in many_tables(chooser_of(271)):
            found = pfaffian(table)
            self.same(found, told_pfaffian(table))
            self.assertEqual(found * found, determinant(table))
            self.assertEqual(found == 0, rank_told(table) < len(table))
            if is_odd(table) and len(table) % 2 == 0:
                self.assertEqual(found % 2, 1)

    def test_known_ones(self):
        four = ((0, 1, 2, 3), (-1, 0, 4, 5), (-2, -4, 0, 6), (-3, -5, -6, 0))
        self.same([pfaffian(ONE), pfaffian(PAIR), pfaffian(RING), pfaffian(four)], [0, 2, 0, 8])
        self.same(pfaffian(table_times(four, -(10 ** 60))), 8 * 10 ** 120)
        for many in (2, 4, 6, 8):
            self.same(pfaffian(in_order(many)), 1)

    def test_left_out_row(self):
        for table in many_tables(chooser_of(272)):
            if len(table) % 2:
                found = left_out_row(table)
                self.same(found, tuple(
                    (-1) ** number * (told_pfaffian(without(table, number)) if len(table) > 1 else 1)
                    for number in range(len(table))
                ))
                self.assertFalse(any(worth_told(table, found)))
                self.assertEqual(not any(found), rank_told(table) < len(table) - 1)
        self.same(left_out_row([[0]]), (1,))
        self.same(left_out_row(RING), (1, 1, 1))

    def test_great_tables(self):
        chooser = chooser_of(273)
        table = some_table(chooser, 8, 10 ** 6)
        self.ends_soon(2, pfaffian, table)
        self.ends_soon(2, pfaffian, table_of(thrown_wide(table, [10 ** 12] * 7 + [1]).cup))
        self.ends_soon(2, left_out_row, some_table(chooser, 7, 10 ** 6))

    def test_errors(self):
        check_tables(self, pfaffian)
        check_tables(self, left_out_row)
        for many in (2, 4, 8):
            self.fails(BadNumber, {"name": "dice"}, left_out_row, in_order(many))


class OddMixTest(DiceTest):
    def check(self, table):
        """All that is told of the one best mix of an odd table."""
        many = len(table)
        mix = odd_mix(table)
        check_short_mix(self, mix, many)
        self.assertEqual(mix, only_mix(table))
        taken = mix.taken_dice()
        self.assertEqual(len(taken) % 2, 1)
        self.assertTrue(all(weight % 2 for weight in mix if weight))
        worth = worth_told(table, mix.entries)
        for number in range(many):
            self.assertTrue(worth[number] == 0 if number in taken else worth[number] < 0 and worth[number] % 2 == 1)
        left = left_out_row(sub_table(table, taken))
        weights = [mix[number] for number in taken]
        self.assertTrue(all(left[0] * weight == entry * weights[0] for entry, weight in zip(left, weights)))
        self.assertEqual(rank_told(table), many - many % 2)
        if many >= 2:
            told = many if many % 2 == 0 else many + 1 if len(taken) == many else many - 1
            self.assertEqual(fewest_ranks(table), told)
            row = [many + number for number in range(many)]
            if many % 2 == 0:
                self.assertIs(face_row(table, row), True)
            elif len(taken) < many:
                self.assertIs(face_row(table, [1] * many), False)
        return mix

    def check_ring(self, table):
        """The dice of the mix, each once, each beating the next one."""
        found = mix_ring(table)
        taken = odd_mix(table).taken_dice()
        if len(taken) == 1:
            self.assertIsNone(found)
            return
        self.assertIs(type(found), tuple)
        self.assertEqual(sorted(found), list(taken))
        for one, two in zip(found, found[1:] + found[:1]):
            self.assertGreater(table[one][two], 0)

    def test_odd_tables(self):
        chooser = chooser_of(274)
        counts = set()
        tables = [table for many in (2, 3) for table in all_tables(many, 3) if is_odd(table)]
        tables.extend(odd_table(chooser, many, most) for many in range(1, 9) for most in (3, 9, 10 ** 6) for _ in range(12))
        tables.extend(in_order(many, entry) for many in range(1, 9) for entry in (1, -5))
        for table in tables:
            mix = self.check(table)
            self.check_ring(table)
            counts.add(len(mix.taken_dice()))
        self.assertEqual(counts, {1, 3, 5, 7})

    def test_three_dice_in_turn(self):
        for u, v, w in itertools.product(range(1, 6), repeat=3):
            table = table_of_pairs(3, (u, -w, v))
            self.assertEqual(only_mix(table), Mix((v, w, u)).short())
            self.assertEqual(fewest_ranks(table), 4)

    def test_face_numbers_on_few_ranks(self):
        chooser = chooser_of(275)
        seen = 0
        for _ in range(3000):
            dice = some_dice(chooser, 3, 2, 4)
            if is_odd(table_of(dice)):
                self.assertEqual(sum(faces(die) % 2 for die in dice) % 2, 0)
                seen += 1
        self.assertGreater(seen, 30)

    def test_great_tables(self):
        chooser = chooser_of(276)
        for many in (7, 8):
            for _ in range(5):
                table = odd_table(chooser, many, 10 ** 6)
                self.ends_soon(2, odd_mix, table)
                self.ends_soon(2, mix_ring, table)
                more = self.ends_soon(2, odd_table_for, odd_mix(table))
                self.assertEqual(self.check(more), odd_mix(table))
                self.check_ring(more)

    def test_errors(self):
        for call in (odd_mix, mix_ring):
            check_tables(self, call)
            for table, place in (
                (PAIR, 1), (table_of_pairs(3, (1, 2, 4)), 2), (table_of_pairs(3, (1, 1, 4)), 5), (in_order(2, 0), 1),
                (table_of_pairs(4, (1, 1, 1, 1, 1, 0)), 11),
            ):
                self.fails(BadTable, {"place": place}, call, table)


class OddTableTest(DiceTest):
    def told_entry(self, weights, i, j):
        """Entry (i, j), i < j, by the words of point 53."""
        if weights[i] and weights[j]:
            outer = sum(weight for k, weight in enumerate(weights) if k < i or k > j)
            return outer - sum(weight for k, weight in enumerate(weights) if i < k < j)
        return -1 if weights[j] else 1

    def check(self, weights):
        """The table of a short form."""
        found = odd_table_for(weights)
        many = len(weights)
        told = [self.told_entry(weights, i, j) for i in range(many) for j in range(i + 1, many)]
        self.same(found, table_of_pairs(many, told))
        self.assertTrue(is_odd(found))
        self.same(odd_mix(found).entries, tuple(weights))

    def test_which_mixes(self):
        for many in range(1, 6):
            for weights in itertools.product((0, 1, 2, 3, 5), repeat=many):
                if any(weights) and is_short(weights):
                    fits = sum(weight % 2 for weight in weights) % 2 and all(weight % 2 for weight in weights if weight)
                    if fits:
                        self.check(weights)
                    else:
                        self.fails(BadWeights, {"place": -1}, odd_table_for, weights)

    def test_short_form_first(self):
        told = odd_table_for((1, 3, 0, 5))
        for mix in ((2, 6, 0, 10), [1, 3, 0, 5], Weighing((4, 12, 0, 20)), Mix((3, 9, 0, 15))):
            self.same(odd_table_for(mix), told)
        self.same(odd_table_for((10,)), ((0,),))
        self.fails(BadWeights, {"place": -1}, odd_table_for, (2, 4, 2))
        self.fails(BadWeights, {"place": -1}, odd_table_for, (2, 2))

    def test_odd_decks(self):
        chooser = chooser_of(277)
        for _ in range(20):
            many = chooser.randint(2, 5)
            weights = [chooser.choice((0, 1, 3, 5)) for _ in range(many)]
            if sum(weights) % 2:
                table = odd_table_for(weights)
                deck = deck_for(table)
                self.assertTrue(all(faces(die) % 2 for die in deck))
                self.assertEqual(only_mix(table_of(deck)), Mix(weights).short())

    def test_along_exchanges(self):
        word = (0, 1, 2, 2, 1, 0, 0, 1, 2)
        for step in exchange_way(word, tuple(sorted(word, reverse=True))):
            table = word_table(step, 3)
            self.assertTrue(is_odd(table))
            self.check_one(table)
        self.assertEqual(Cup.of_word(word, 3).many, 3)

    def check_one(self, table):
        """The odd table has just one best mix, of an odd number of dice."""
        mix = only_mix(table)
        self.assertEqual(len(mix.taken_dice()) % 2, 1)
        self.assertTrue(is_best(table, mix))
        self.assertEqual(best_mix(table), mix)

    def test_great_weights(self):
        weights = [10 ** 6 - 1, 10 ** 6 - 3, 10 ** 6 - 7, 10 ** 6 - 11, 10 ** 6 - 13, 0, 0, 10 ** 6 - 17, 1][:8]
        if sum(weight % 2 for weight in weights) % 2 == 0:
            weights[0] = 0
        self.ends_soon(2, odd_table_for, weights)
        self.check(weights)
        self.assertEqual(table_rank(odd_table_for(weights)), 8)

    def test_errors(self):
        check_mix(self, odd_table_for)
        for mix in ((1, 1), (1, 2, 0), (0, 1, 1), (3, 5, 2), (1, 1, 1, 1)):
            self.fails(BadWeights, {"place": -1}, odd_table_for, mix)


if __name__ == "__main__":
    unittest.main()
