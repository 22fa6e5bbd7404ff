"""Points 4, 5, 9 and 14: one die, standing over, mixes."""

import itertools
import unittest

from dicewins.dice import (
    below, belows, bottom_rank, die_of, faces, held_ranks, is_like, is_one_faced, is_two_ranked, mixed_die, one_faced,
    short_die, stands_over, top_rank,
)
from dicewins.errors import BadDie, BadNumber, BadWeights, OtherSize
from dicewins.throws import beats, lead
from helping import NO_INTS, NO_ROWS, DiceTest, chooser_of, some_dice, some_die

ONE_DIE = (die_of, faces, belows, top_rank, bottom_rank, held_ranks, is_one_faced, is_two_ranked, short_die)


class OneDieTest(DiceTest):
    def test_die_of(self):
        row = [0, 3, 10 ** 60]
        die = die_of(row)
        self.same(die, (0, 3, 10 ** 60))
        row[0] = 5
        self.same(die, (0, 3, 10 ** 60))
        self.same(die_of((1,)), (1,))

    def test_counts(self):
        self.same(faces([2, 0, 1]), 3)
        self.same(faces((10 ** 28, 10 ** 60)), 10 ** 28 + 10 ** 60)
        self.same([below([2, 0, 1], gap) for gap in range(4)], [0, 2, 2, 3])
        self.same(belows([2, 0, 1]), (0, 2, 2, 3))
        self.same(belows((4,)), (0, 4))

    def test_ranks(self):
        die = [0, 2, 0, 1, 0]
        self.same([top_rank(die), bottom_rank(die), held_ranks(die)], [3, 1, (1, 3)])
        self.same([top_rank([5]), bottom_rank([5]), held_ranks([5])], [0, 0, (0,)])

    def test_kinds(self):
        for die, single, double in (
            ((1,), True, True), ((0, 9), True, True), ((1, 0, 2), False, True), ((1, 1, 1), False, False),
            ((0, 1, 0, 3, 0, 1), False, False),
        ):
            self.assertIs(is_one_faced(die), single)
            self.assertIs(is_two_ranked(die), double)

    def test_one_faced(self):
        self.same(one_faced(1, 0, 3), (3,))
        self.same(one_faced(4, 0, 1), (1, 0, 0, 0))
        self.same(one_faced(4, 3, 10 ** 60), (0, 0, 0, 10 ** 60))
        for ranks in NO_INTS + (0, -1):
            self.fails(BadNumber, {"name": "ranks"}, one_faced, ranks, 9, 0)
        for rank in NO_INTS + (-1, 4, 10 ** 28):
            self.fails(BadNumber, {"name": "rank"}, one_faced, 4, rank, 0)
        for count in NO_INTS + (0, -1):
            self.fails(BadNumber, {"name": "count"}, one_faced, 4, 3, count)

    def test_short_die(self):
        self.same(short_die([4, 0, 6]), (2, 0, 3))
        self.same(short_die((0, 10 ** 60)), (0, 1))
        self.same(short_die((2, 3)), (2, 3))

    def test_what_is_no_die(self):
        for call in ONE_DIE:
            for value in NO_ROWS + ((), [], (0,), (0, 0)):
                self.fails(BadDie, {"place": -1}, call, value)
            for value in NO_INTS + (-1,):
                self.fails(BadDie, {"place": 2}, call, (0, 1, value, -1))
                self.fails(BadDie, {"place": 0}, call, [value])

    def test_errors_of_below(self):
        for gap in NO_INTS + (-1, 4):
            self.fails(BadNumber, {"name": "gap"}, below, (1, 0, 1), gap)
            self.fails(BadDie, {"place": 1}, below, (1, -1, 1), gap)


class TwoDiceTest(DiceTest):
    def test_like(self):
        for first, second, found in (
            ((1, 2), (2, 4), True), ((3, 6), [2, 4], True), ((1, 2), (2, 1), False), ((0, 5), (0, 1), True),
            ((0, 5), (5, 0), False), ((4,), (7,), True), ((10 ** 60, 10 ** 28), (10 ** 32, 1), True),
        ):
            self.assertIs(is_like(first, second), found)

    def test_stands_over(self):
        for first, second, found in (
            ((0, 1), (1, 0), True), ((1, 0), (0, 1), False), ((1, 1), (2, 2), True), ((1, 0, 1), (0, 2, 0), False),
            ((0, 2, 0), (1, 0, 1), False), ((0, 1, 1), (1, 1, 1), True), ((5,), (1,), True),
        ):
            self.assertIs(stands_over(first, second), found)

    def test_stands_over_by_its_words(self):
        chooser = chooser_of(5)
        for _ in range(400):
            a, b = some_dice(chooser, 2, chooser.randint(1, 4), 3)
            ranks = len(a)
            told = all(faces(b) * below(a, j) <= faces(a) * below(b, j) for j in range(ranks + 1))
            self.assertIs(stands_over(a, b), told)
            alike = all(faces(b) * a[j] == faces(a) * b[j] for j in range(ranks))
            self.assertIs(is_like(a, b), alike)
            self.assertEqual(stands_over(a, b) and stands_over(b, a), alike)

    def test_standing_over_goes_on(self):
        dice = [die for die in itertools.product(range(3), repeat=3) if any(die)]
        over = {(a, b) for a in dice for b in dice if stands_over(a, b)}
        for a, b in over:
            for c in dice:
                if (b, c) in over:
                    self.assertIn((a, c), over)

    def test_told_by_one_faced_dice(self):
        chooser = chooser_of(6)
        for _ in range(200):
            a, b = some_dice(chooser, 2, 3, 3)
            wide_a, wide_b = [tuple(x for entry in die for x in (0, entry)) + (0,) for die in (a, b)]
            told = True
            for rank in range(7):
                c = one_faced(7, rank, 1)
                told = told and faces(b) * lead(wide_a, c) >= faces(a) * lead(wide_b, c)
            self.assertIs(stands_over(a, b), told)
            if told:
                self.assertGreaterEqual(lead(a, b), 0)
                self.assertEqual(lead(a, b) == 0, is_like(a, b))

    def test_two_faces_each(self):
        dice = [die for die in itertools.product(range(3), repeat=4) if sum(die) == 2]
        for a in dice:
            for b in dice:
                self.assertEqual(beats(a, b), stands_over(a, b) and not is_like(a, b))

    def test_errors_in_order(self):
        for call in (is_like, stands_over):
            self.fails(BadDie, {"place": 0}, call, (-1, 0), (0,))
            self.fails(BadDie, {"place": -1}, call, (1, 0), (0,))
            self.fails(BadDie, {"place": 1}, call, (1, 0), (0, True))
            self.fails(OtherSize, {"first": 2, "second": 3}, call, (1, 0), (0, 0, 1))


class MixTest(DiceTest):
    def test_mixed_die(self):
        self.same(mixed_die((1, 2), (1, 0, 1), [0, 3, 0]), (1, 6, 1))
        self.same(mixed_die([5], (0, 2)), (0, 10))
        self.same(mixed_die([0, 1, 0], (1, 0), (0, 1), (1, 1)), (0, 1))
        self.same(mixed_die([10 ** 60, 1], [10 ** 60], [1]), (10 ** 120 + 1,))

    def test_leads_over_a_mix(self):
        chooser = chooser_of(7)
        for _ in range(100):
            dice = some_dice(chooser, 3, 4, 3)
            other = some_die(chooser, 4, 3)
            weights = some_die(chooser, 3, 3)
            told = sum(weight * lead(other, die) for weight, die in zip(weights, dice))
            mixed = mixed_die(weights, *dice)
            self.assertEqual(lead(other, mixed), told)
            taken = [die for die, weight in zip(dice, weights) if weight]
            self.assertEqual(top_rank(mixed), max(top_rank(die) for die in taken))
            if all(stands_over(die, other) for die in taken):
                self.assertTrue(stands_over(mixed, other))
            if all(stands_over(other, die) for die in taken):
                self.assertTrue(stands_over(other, mixed))

    def test_wrong_weights(self):
        for value in NO_ROWS + ([], (1,), (1, 2, 3), (0, 0)):
            self.fails(BadWeights, {"place": -1}, mixed_die, value, (1, 0), (0, 0))
        for value in NO_INTS + (-1,):
            self.fails(BadWeights, {"place": 1}, mixed_die, (0, value), (1, 0), (0, 0))
        self.fails(BadWeights, {"place": -1}, mixed_die, (1,))
        self.fails(BadWeights, {"place": -1}, mixed_die, ())

    def test_wrong_dice_behind_the_weights(self):
        self.fails(BadDie, {"place": 1}, mixed_die, (1, 1, 1), (1, 0), (1, -1), (0, 0))
        self.fails(BadDie, {"place": -1}, mixed_die, (1, 1, 1), (1, 0), (1, 0, 0), (0, 0))
        self.fails(OtherSize, {"first": 2, "second": 3}, mixed_die, (1, 1, 1, 1), (1, 0), (0, 1), (1, 0, 0), (1,))
        self.fails(OtherSize, {"first": 2, "second": 3}, mixed_die, (1, 1), (1, 0), (0, 1, 0))


if __name__ == "__main__":
    unittest.main()
