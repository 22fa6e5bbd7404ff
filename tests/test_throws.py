"""Points 6 and 7, and what point 9 says of rings: two dice thrown against one another."""

import itertools
import unittest
from fractions import Fraction

from dicewins.dice import below, faces
from dicewins.errors import BadDie, OtherSize
from dicewins.throws import areas, beats, chance, half_chance, lead, ties, wins
from helping import NO_INTS, NO_ROWS, DiceTest, chooser_of, counted, is_lowest, some_dice, worth_of

ALL = (wins, ties, lead, beats, chance, half_chance, areas)


class CountTest(DiceTest):
    def test_pair_by_pair(self):
        chooser = chooser_of(11)
        for _ in range(300):
            a, b = some_dice(chooser, 2, chooser.randint(1, 5), 3)
            won, tied, lost = counted(a, b)
            pairs = faces(a) * faces(b)
            self.same([wins(a, b), ties(a, b), wins(b, a), lead(a, b)], [won, tied, lost, won - lost])
            self.assertEqual(won + tied + lost, pairs)
            self.assertIs(beats(a, b), won > lost)
            self.assertEqual(lead(b, a), lost - won)
            self.assertEqual(worth_of(chance(a, b)), Fraction(won, pairs))
            self.assertEqual(worth_of(half_chance(a, b)), Fraction(2 * won + tied, 2 * pairs))
            self.assertTrue(is_lowest(chance(a, b)) and is_lowest(half_chance(a, b)))
            self.assertEqual(worth_of(half_chance(a, b)) + worth_of(half_chance(b, a)), 1)
            self.assertEqual(worth_of(chance(a, b)) + worth_of(chance(b, a)) == 1, tied == 0)
            self.assertEqual(worth_of(half_chance(a, b)) > Fraction(1, 2), beats(a, b))
            self.assertEqual(lead(a, b) & 1, (pairs - tied) & 1)

    def test_areas(self):
        chooser = chooser_of(12)
        for _ in range(100):
            a, b = some_dice(chooser, 2, chooser.randint(1, 5), 3)
            told = tuple(
                below(a, j + 1) * below(b, j) - below(a, j) * below(b, j + 1) for j in range(len(a))
            )
            self.same(areas(a, b), told)
            self.assertEqual(sum(told), lead(a, b))

    def test_edges(self):
        self.same([call((3,), (5,)) for call in ALL], [0, 15, 0, False, (0, 1), (1, 2), (0,)])
        great = 10 ** 60
        self.same([wins((0, great), (great, 0)), lead((great, 0), (0, 10 ** 28))], [10 ** 120, -(10 ** 88)])
        self.same(chance([0, great], [great, 0]), (1, 1))
        self.same(half_chance([great, 0], [0, great]), (0, 1))
        self.same(lead([0, 4, 0], [0, 7, 0]), 0)

    def test_multiplied(self):
        chooser = chooser_of(13)
        for _ in range(50):
            a, b = some_dice(chooser, 2, 4, 3)
            r, s = chooser.randint(1, 9), chooser.randint(1, 9)
            self.assertEqual(lead([r * entry for entry in a], [s * entry for entry in b]), r * s * lead(a, b))

    def test_a_face_moved_up(self):
        chooser = chooser_of(14)
        for _ in range(100):
            a, b = some_dice(chooser, 2, 4, 3)
            for rank in range(3):
                if a[rank]:
                    moved = list(a)
                    moved[rank] -= 1
                    moved[rank + 1] += 1
                    self.assertEqual(lead(moved, b) - lead(a, b), b[rank] + b[rank + 1])

    def test_three_faces_can_beat_in_turn(self):
        a, b, c = (0, 1, 0, 1, 0, 0, 0, 0, 1), (1, 0, 0, 0, 0, 1, 0, 1, 0), (0, 0, 1, 0, 1, 0, 1, 0, 0)
        self.same([beats(a, b), beats(b, c), beats(c, a)], [True, True, True])

    def test_two_faces_never_beat_in_turn(self):
        dice = [die for die in itertools.product(range(3), repeat=4) if sum(die) == 2]
        for a, b, c in itertools.product(dice, repeat=3):
            self.assertFalse(beats(a, b) and beats(b, c) and beats(c, a))

    def test_errors_in_order(self):
        for call in ALL:
            for value in NO_ROWS + ((), (0, 0)):
                self.fails(BadDie, {"place": -1}, call, value, (1, -1))
                self.fails(BadDie, {"place": -1}, call, (1, 0), value)
            for value in NO_INTS + (-1,):
                self.fails(BadDie, {"place": 1}, call, (1, value), (1, 0, value))
                self.fails(BadDie, {"place": 2}, call, (1, 0), (1, 0, value))
            self.fails(OtherSize, {"first": 2, "second": 1}, call, (1, 0), [3])


if __name__ == "__main__":
    unittest.main()
