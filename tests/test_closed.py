"""Points 85 and 89: closed rows of the dice of a cup."""

import itertools
import unittest
from fractions import Fraction

from dicewins.closed import closing_of, closing_place, ring_losses, row_losses
from dicewins.cups import Cup
from dicewins.cutting import cut_all
from dicewins.errors import BadCup, BadNumber
from dicewins.fewest import fewest_ranks
from dicewins.rings import ring_for
from dicewins.tables import sub_table, table_of
from dicewins.throws import beats, chance, half_chance
from helping import NO_INTS, NO_ROWS, DiceTest, chooser_of, is_lowest, some_dice, some_word, worth_of
from test_cups import check_cup
from test_paths import CUP
from test_rings import round_of, told_turn

RING = [(0, 1, 0, 1, 0, 0, 0, 0, 1), (1, 0, 0, 0, 0, 1, 0, 1, 0), (0, 0, 1, 0, 1, 0, 1, 0, 0)]


class RowTest(DiceTest):
    def check(self, cup, numbers):
        """Losses and closing place of a closed row, by their words; the half chances."""
        halves = [worth_of(half_chance(cup[a], cup[b])) for a, b in zip(numbers, numbers[1:] + numbers[:1])]
        table = table_of(cup)
        found = row_losses(cup, numbers)
        self.assertIs(type(found), tuple)
        self.assertTrue(all(is_lowest(loss) for loss in found))
        self.assertEqual([worth_of(loss) for loss in found], [1 - half for half in halves])
        for loss, a, b in zip(found, numbers, numbers[1:] + numbers[:1]):
            count = sum(cup[a]) * sum(cup[b])
            self.assertEqual(worth_of(loss), Fraction(count - table[a][b], 2 * count))
        turn = closing_place(list(cup), tuple(numbers))
        self.assertIsNotNone(turn)
        self.same(turn, told_turn(halves))
        return halves

    def test_rows(self):
        chooser = chooser_of(441)
        for _ in range(500):
            cup = Cup(some_dice(chooser, chooser.randint(1, 4), chooser.randint(1, 6), 3))
            numbers = [chooser.randrange(len(cup)) for _ in range(chooser.randint(2, 7))]
            halves = self.check(cup, numbers)
            self.assertLess(min(halves), Fraction(3, 4))
            if len(halves) == 4:
                self.assertLessEqual(min(halves), Fraction(2, 3))
            if len(halves) == 2:
                self.assertLessEqual(min(halves), Fraction(1, 2))

    def test_numbers_that_come_again(self):
        for numbers in ([0, 0], [0, 1, 0, 1], [2, 2, 2], [0, 1, 1, 2], [1, 0, 2, 0]):
            self.check(Cup(RING), numbers)
        self.same(row_losses(RING, [1, 1]), ((1, 2), (1, 2)))
        self.same(row_losses([(3,)], (0, 0, 0)), ((1, 2),) * 3)
        self.same(closing_place([(3,)], (0, 0)), (0, 2))

    def test_known_ones(self):
        self.same([row_losses(RING, [0, 1, 2]), closing_place(RING, [0, 1, 2])], [((4, 9),) * 3, (0, 3)])
        self.same(row_losses(RING, [2, 1, 0]), ((5, 9),) * 3)

    def test_rings_need_four_ranks(self):
        chooser = chooser_of(442)
        seen = 0
        for _ in range(1000):
            many = chooser.randint(3, 5)
            cup = Cup.of_word(some_word(chooser, many, 3 * many), many)
            for numbers in itertools.permutations(range(many), 3):
                if all(beats(cup[a], cup[b]) for a, b in zip(numbers, numbers[1:] + numbers[:1])):
                    self.assertGreaterEqual(fewest_ranks(sub_table(table_of(cup), numbers)), 4)
                    seen += 1
        self.assertGreater(seen, 20)
        for bottom in (7, 8, 9):
            chances = [(bottom // 2 + 1, bottom)] * 3
            if ring_for(chances) is not None:
                self.assertGreaterEqual(ring_for(chances).ranks, 4)

    def test_great_rows(self):
        chooser = chooser_of(443)
        cup = Cup(some_dice(chooser, 6, 12, 10 ** 60))
        numbers = [chooser.randrange(6) for _ in range(16)]
        self.assertEqual(len(self.ends_soon(2, row_losses, cup, numbers)), 16)
        self.ends_soon(2, closing_place, cup, numbers)
        self.check(cup, numbers)
        great = Cup(some_dice(chooser, 40, 1000, 10 ** 60))
        self.assertIsNotNone(self.ends_soon(5, closing_place, great, list(range(40))))
        self.assertIsNotNone(self.ends_soon(5, closing_of, great))

    def test_errors(self):
        for call in (row_losses, closing_place):
            check_cup(self, lambda value: call(value, None))
            for value in NO_ROWS + ((), [], [0], (2,)):
                self.fails(BadNumber, {"name": "numbers"}, call, CUP, value)
            for value in NO_INTS + (-1, 3):
                self.fails(BadNumber, {"name": "numbers"}, call, CUP, [0, 1, value])
                self.fails(BadNumber, {"name": "numbers"}, call, CUP, (value, 1, 0))


class RoundTest(DiceTest):
    def test_round_the_ring(self):
        chooser = chooser_of(444)
        for _ in range(400):
            cup = Cup(some_dice(chooser, chooser.randint(2, 5), chooser.randint(1, 6), 3))
            chances = round_of(cup, chance)
            found = ring_losses(cup)
            self.assertIs(type(found), tuple)
            self.assertTrue(all(is_lowest(loss) for loss in found))
            self.assertEqual([worth_of(loss) for loss in found], [1 - value for value in chances])
            self.assertIsNotNone(closing_of(cup))
            self.same(closing_of(list(cup)), told_turn(chances))

    def test_known_ones(self):
        self.same([ring_losses(RING), closing_of(RING)], [((4, 9),) * 3, (0, 3)])
        self.same([ring_losses([(1,), (2,)]), closing_of([(1,), (2,)])], [((1, 1), (1, 1)), (0, 1)])

    def test_what_was_returned(self):
        chooser = chooser_of(445)
        cup = cut_all(Cup(some_dice(chooser, 16, 300, 10 ** 60)))
        self.assertIsNotNone(self.ends_soon(5, closing_of, cup))
        self.assertEqual(len(self.ends_soon(5, ring_losses, cup)), 16)

    def test_errors(self):
        for call in (ring_losses, closing_of):
            check_cup(self, call)
            self.fails(BadCup, {"place": -1}, call, [(1, 0)])
            self.fails(BadCup, {"place": -1}, call, Cup([(1,)]))


if __name__ == "__main__":
    unittest.main()
