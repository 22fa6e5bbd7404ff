"""Point 128: which leads follow from the tests."""

import unittest

from dicewins.cups import Cup
from dicewins.dice import is_like, mixed_die
from dicewins.errors import OtherSize
from dicewins.following import follow_weights, follows_from, split_pair
from dicewins.telling import tell_all, tellings, test_rows
from dicewins.throws import lead
from helping import DiceTest, check_die, chooser_of, digits_of, is_lowest, some_dice, some_die, worth_of
from test_cups import check_cup
from test_paths import CUP

CALLS = (follows_from, follow_weights, split_pair)


class FollowTest(DiceTest):
    def check(self, cup, die):
        """Weights by which the lead follows, or two dice that show that it does not; whether it follows."""
        weights = follow_weights(cup, list(die))
        pair = split_pair(list(cup), die)
        self.assertEqual(weights is None, pair is not None)
        self.assertIs(follows_from(cup, die), weights is not None)
        if weights is not None:
            self.check_weights(cup, die, weights)
            return True
        self.assertTrue(type(pair) is tuple and all(type(part) is tuple for part in pair))
        one, two = pair
        self.assertEqual(sum(one), sum(two))
        self.same(tellings(cup, one), tellings(cup, two))
        self.assertNotEqual(lead(one, die), lead(two, die))
        self.assertLessEqual(digits_of(*pair), 800)
        return False

    def check_weights(self, cup, die, weights):
        """The test row of the die is made of those of the tests, and so are all leads over it."""
        self.assertTrue(type(weights) is tuple and type(weights[0]) is tuple and len(weights) == 2)
        self.assertEqual(len(weights[0]), cup.many)
        self.assertTrue(all(is_lowest(part) for part in weights[0] + (weights[1],)))
        parts = [worth_of(part) for part in weights[0]]
        more = worth_of(weights[1])
        rows = test_rows(cup)
        for rank, entry in enumerate(test_rows([die])[0]):
            self.assertEqual(sum(part * row[rank] for part, row in zip(parts, rows)) + more, entry)
        chooser = chooser_of(sum(die) % 1000)
        other = some_die(chooser, cup.ranks, 5)
        told = sum(part * worth for part, worth in zip(parts, tellings(cup, other))) + more * sum(other)
        self.assertEqual(lead(other, die), told)
        self.assertLessEqual(digits_of(*weights[0], weights[1]), 800)

    def test_cups(self):
        chooser = chooser_of(601)
        seen = []
        for _ in range(400):
            cup = Cup(some_dice(chooser, chooser.randint(1, 4), chooser.randint(1, 6), 3))
            die = some_die(chooser, cup.ranks, 3)
            told = self.check(cup, die)
            seen.append(told)
            if tell_all(cup):
                self.assertTrue(told)
        self.assertGreater(min(seen.count(True), seen.count(False)), 50)

    def test_mixes_and_like_dice(self):
        chooser = chooser_of(602)
        for _ in range(150):
            cup = Cup(some_dice(chooser, chooser.randint(1, 4), chooser.randint(1, 6), 3))
            weights = some_die(chooser, cup.many, 5)
            self.assertTrue(self.check(cup, mixed_die(weights, *cup)))
            number = chooser.randrange(cup.many)
            for die in (cup[number], tuple(7 * entry for entry in cup[number])):
                self.assertTrue(is_like(die, cup[number]) and self.check(cup, die))

    def test_known_ones(self):
        self.same(follow_weights([[0, 2]], [0, 1]), (((1, 2),), (0, 1)))
        self.same([follows_from([(1, 0, 1)], (0, 1, 0)), follows_from([(1, 0, 1)], (1, 0, 0))], [True, False])
        # one rank: all leads are 0
        self.assertTrue(self.check(Cup([(3,)]), (5,)))
        # what no test but the faces tell
        self.assertTrue(self.check(Cup([(1, 0), (0, 1)]), (1, 1)))

    def test_greatest(self):
        chooser = chooser_of(603)
        for most in (10 ** 28, 10 ** 60):
            for many in (7, 8):
                cup = Cup(some_dice(chooser, many, 10, most))
                die = some_die(chooser, 10, most)
                for call in CALLS:
                    self.ends_soon(2, call, cup, die)
                self.assertFalse(self.check(cup, die))
                self.assertTrue(self.check(cup, mixed_die((3,) * many, *cup)))
            cup = Cup(some_dice(chooser, 8, 9, most))
            self.assertTrue(self.check(cup, some_die(chooser, 9, most)))

    def test_errors(self):
        for call in CALLS:
            check_cup(self, lambda value: call(value, None))
            check_die(self, lambda value: call(CUP, value))
            self.fails(OtherSize, {"first": 2, "second": 3}, call, CUP, (1, 0, 0))


if __name__ == "__main__":
    unittest.main()
