"""Point 84: dice that are cut."""

import unittest

from dicewins.cups import Cup
from dicewins.cutting import cut_all, cut_ring, points_of
from dicewins.dice import held_ranks, one_faced
from dicewins.errors import BadCup, BadNumber
from dicewins.rings import is_ring, ring_for
from dicewins.throws import chance
from helping import NO_INTS, DiceTest, chooser_of, digits_of, some_dice, worth_of
from test_cups import check_cup
from test_paths import CUP
from test_rings import round_of


class PointTest(DiceTest):
    def test_by_their_words(self):
        chooser = chooser_of(431)
        for _ in range(200):
            cup = Cup(some_dice(chooser, chooser.randint(2, 4), chooser.randint(1, 5), 3))
            for number in range(len(cup)):
                told = []
                for rank in held_ranks(cup[number]):
                    single = one_faced(cup.ranks, rank, 1)
                    following, ahead = cup[(number + 1) % len(cup)], cup[(number - 1) % len(cup)]
                    told.append((rank, chance(single, following), chance(ahead, single)))
                self.same(points_of(cup, number), told)
                self.same(points_of(list(cup), number), told)

    def test_known_ones(self):
        self.same(points_of([(1, 1, 1), (0, 2, 0)], 0), [(0, (0, 1), (1, 1)), (1, (0, 1), (0, 1)), (2, (1, 1), (0, 1))])
        self.same(points_of([(3,), (1,)], 1), [(0, (0, 1), (0, 1))])
        found = points_of(CUP, 0)
        found.clear()
        self.assertEqual(len(points_of(CUP, 0)), 2)

    def test_errors(self):
        for call in (points_of, cut_ring):
            check_cup(self, lambda value: call(value, None))
            self.fails(BadCup, {"place": -1}, call, [(1, 0)], None)
            for value in NO_INTS + (-1, 3):
                self.fails(BadNumber, {"name": "number"}, call, CUP, value)
        check_cup(self, cut_all)
        self.fails(BadCup, {"place": -1}, cut_all, Cup([(1, 0)]))


class CutTest(DiceTest):
    def check(self, cup, number):
        """The cup with one die cut; whether the die is another one."""
        found = cut_ring(cup, number)
        self.assertIs(type(found), Cup)
        self.assertEqual(found.ranks, cup.ranks)
        self.assertEqual([die for other, die in enumerate(found) if other != number],
                         [die for other, die in enumerate(cup) if other != number])
        held = held_ranks(found[number])
        self.assertLessEqual(len(held), 2)
        self.assertEqual(set(held) - set(held_ranks(cup[number])), set())
        following, ahead = cup[(number + 1) % len(cup)], cup[(number - 1) % len(cup)]
        self.assertGreaterEqual(worth_of(chance(found[number], following)), worth_of(chance(cup[number], following)))
        self.assertGreaterEqual(worth_of(chance(ahead, found[number])), worth_of(chance(ahead, cup[number])))
        self.assertLessEqual(digits_of(found[number]), 800)
        if len(held_ranks(cup[number])) <= 2:
            self.assertEqual(found, cup)
        return found != cup

    def check_all(self, cup):
        """All dice cut: no chance round the ring has fallen."""
        found = cut_all(cup)
        told = cup
        for number in range(len(cup)):
            told = cut_ring(told, number)
        self.assertIs(type(found), Cup)
        self.assertEqual(found, told)
        self.assertTrue(all(a >= b for a, b in zip(round_of(found, chance), round_of(cup, chance))))
        self.assertLessEqual(len({rank for die in found for rank in held_ranks(die)}), 2 * len(cup))
        self.assertTrue(all(len(held_ranks(die)) <= 2 for die in found))
        self.assertLessEqual(digits_of(*found), 800)
        old = [chance(one, two) for one, two in zip(cup, list(cup)[1:] + [cup[0]])]
        self.assertIs(is_ring(found, old), True)

    def test_small_cups(self):
        chooser = chooser_of(432)
        changed = 0
        for _ in range(600):
            many, ranks = chooser.randint(2, 4), chooser.randint(1, 7)
            cup = Cup(some_dice(chooser, many, ranks, chooser.choice((1, 3, 9))))
            changed += sum(self.check(cup, number) for number in range(many))
            self.check_all(cup)
        self.assertGreater(changed, 400)

    def test_few_ranks_stay(self):
        for dice in ([(4, 0, 0), (0, 2, 2)], [(0, 6), (2, 4)], [(5,), (7,)], [(0, 3, 0, 3), (1, 1, 1, 1)]):
            cup = Cup(dice)
            self.same(cut_ring(cup, 0).dice, cup.dice)
        cup = ring_for([(2, 3)] * 4)
        self.same(cut_all(cup).dice, cup.dice)

    def test_all_points_alike(self):
        # at each rank as much is won and lost; then the lowest rank loses most to the die ahead
        self.same(held_ranks(cut_ring([(1, 1, 1, 0), (0, 0, 0, 1)], 0)[0]), (0,))
        self.assertTrue(self.check(Cup([(1, 1, 1, 0), (0, 0, 0, 1)]), 0))
        self.assertTrue(self.check(Cup([(0, 1, 1, 1), (1, 0, 0, 0)]), 0))
        self.assertTrue(self.check(Cup([(1, 2, 3), (1, 2, 3)]), 1))

    def test_the_mean_is_met_at_a_rank(self):
        # die 0 wins 0, 1, 2 of 2 and is beaten 2, 2, 0 times of 2 at its ranks: rank 2 alone is above the rest
        cup = Cup([(1, 0, 1, 0, 1), (0, 1, 0, 1, 0), (0, 0, 0, 2, 0)])
        self.assertTrue(self.check(cup, 0))
        self.same(held_ranks(cut_ring(cup, 0)[0]), (2,))

    def test_great_cups(self):
        chooser = chooser_of(433)
        cup = Cup(some_dice(chooser, 6, 300, 10 ** 60))
        for number in (0, 5):
            self.ends_soon(2, self.check, cup, number)
            self.assertEqual(len(self.ends_soon(2, points_of, cup, number)), 300)
        self.ends_soon(4, self.check_all, cup)
        self.ends_soon(10, self.check_all, Cup(some_dice(chooser, 16, 300, 10 ** 60)))


if __name__ == "__main__":
    unittest.main()
