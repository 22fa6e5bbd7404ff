"""Points 121 to 127: what tests tell of an unseen die."""

import itertools
import unittest

from dicewins.cups import Cup
from dicewins.dice import is_like, one_faced
from dicewins.errors import BadCup, BadNumber, BadSet, OtherSize, TooMany
from dicewins.linear import kernel_rows, row_rank
from dicewins.planes import table_rank
from dicewins.tables import table_of
from dicewins.telling import (
    die_told, fewest_tests, one_faced_tests, tell_all, tellings, tells_number, test_rows, twins, unlike_pair,
)
from dicewins.throws import lead
from helping import (
    NO_INTS, NO_ROWS, DiceTest, check_die, check_number, chooser_of, digits_of, some_dice, some_die,
)
from test_cups import check_cup
from test_paths import CUP


def dice_with(ranks, number):
    """All dice with so many faces on so many ranks."""
    if ranks == 1:
        return [(number,)]
    return [(first,) + rest for first in range(number + 1) for rest in (
        dice_with(ranks - 1, number - first) if number > first else [(0,) * (ranks - 1)])]


def leads_told(ranks, tested, die):
    """The leads over the one-faced tests, by their words."""
    return [sum(die[rank + 1:]) - sum(die[:rank]) for rank in sorted(tested)]


def some_tested(chooser, ranks):
    """A set of ranks, in any order."""
    return chooser.sample(range(ranks), chooser.randint(0, ranks))


def check_ranks_number_tested(test, call, more=None):
    """The errors of ranks, number and tested, in their order."""
    check_number(test, "ranks", (0, -1), lambda value: call(value, None, None, *(more or ())))
    check_number(test, "number", (0, -1), lambda value: call(3, value, None, *(more or ())))
    for value in NO_ROWS:
        test.fails(BadSet, {"place": -1}, call, 3, 2, value, *(more or ()))
    for value in NO_INTS + (-1, 3, 1):
        test.fails(BadSet, {"place": 1}, call, 3, 2, (1, value), *(more or ()))


class RowTest(DiceTest):
    def test_rows(self):
        chooser = chooser_of(591)
        for _ in range(200):
            cup = Cup(some_dice(chooser, chooser.randint(1, 4), chooser.randint(1, 6), 4))
            found = test_rows(cup)
            told = [tuple(lead(one_faced(cup.ranks, rank, 1), test) for rank in range(cup.ranks)) for test in cup]
            self.same(found, told)
            found.clear()
            self.same(test_rows(list(cup)), told)
            die = some_die(chooser, cup.ranks, 4)
            self.same(tellings(cup, list(die)), tuple(lead(die, test) for test in cup))
            for row, worth in zip(told, tellings(cup, die)):
                self.assertEqual(sum(a * b for a, b in zip(row, die)), worth)

    def test_known_ones(self):
        self.same(test_rows([(0, 2, 1), (1, 1, 1)]), [(-3, -1, 2), (-2, 0, 2)])
        self.same([test_rows([(5,)]), tellings([(5,)], (2,))], [[(0,)], (0,)])

    def test_errors(self):
        check_cup(self, test_rows)
        check_cup(self, tell_all)
        check_cup(self, unlike_pair)
        check_cup(self, lambda value: tellings(value, None))
        check_die(self, lambda value: tellings(CUP, value))
        self.fails(OtherSize, {"first": 2, "second": 3}, tellings, CUP, (1, 0, 0))


class AllTest(DiceTest):
    def check(self, cup):
        """Whether the tests tell all, and two dice that show that they do not."""
        told = row_rank(test_rows(cup) + [(1,) * cup.ranks]) == cup.ranks
        self.assertIs(tell_all(cup), told)
        pair = unlike_pair(list(cup))
        self.assertEqual(pair is None, told)
        if pair is not None:
            self.assertTrue(type(pair) is tuple and len(pair) == 2)
            one, two = pair
            self.assertTrue(all(type(die) is tuple for die in pair))
            self.assertEqual(sum(one), sum(two))
            self.same(tellings(cup, one), tellings(cup, two))
            self.assertFalse(is_like(one, two))
            self.assertLessEqual(digits_of(*pair), 800)
        return told

    def test_cups(self):
        chooser = chooser_of(592)
        seen = []
        for _ in range(400):
            ranks = chooser.randint(1, 5)
            cup = Cup(some_dice(chooser, chooser.randint(1, 5), ranks, 3))
            seen.append((self.check(cup), cup.many - ranks))
        # with one test less than ranks it may be so or not, with two less never
        self.assertTrue({(True, -1), (False, -1), (True, 0), (False, -2)} <= set(seen))
        self.assertFalse(any(told for told, more in seen if more < -1))

    def test_all_small_dice(self):
        chooser = chooser_of(593)
        for _ in range(60):
            ranks = chooser.randint(1, 3)
            cup = Cup(some_dice(chooser, chooser.randint(1, 3), ranks, 2))
            if tell_all(cup):
                for number in (1, 2, 4):
                    rows = [tellings(cup, die) for die in dice_with(ranks, number)]
                    self.assertEqual(len(set(rows)), len(rows))

    def test_whatever_the_faces(self):
        # equal tellings tell the die, its number of faces too, exactly if the table of the tests has rank h
        chooser = chooser_of(594)
        seen = []
        for _ in range(200):
            ranks = chooser.randint(1, 4)
            cup = Cup(some_dice(chooser, chooser.randint(1, 5), ranks, 3))
            told = table_rank(table_of(cup)) == ranks
            seen.append(told)
            kernel = kernel_rows(test_rows(cup), ranks)
            self.assertEqual(not kernel, told)
            for row in kernel:
                one = tuple(max(0, entry) + 1 for entry in row)
                two = tuple(max(0, -entry) + 1 for entry in row)
                self.same(tellings(cup, one), tellings(cup, two))
        self.assertTrue(True in seen and False in seen)
        for _ in range(60):
            die = some_die(chooser, 3, 9)
            self.assertEqual(lead((0, 1, 0), die), lead((1, 0, 1), die))

    def test_known_ones(self):
        self.same([tell_all([(1,)]), unlike_pair([(7,)])], [True, None])
        self.same([tell_all([(1, 0)]), tell_all([(1, 1)]), tell_all([(1, 1), (2, 2)])], [True, True, True])
        self.assertFalse(tell_all([(1, 0, 1)]))
        # just what is needed, and one less
        self.assertTrue(tell_all([one_faced(4, rank, 1) for rank in (0, 1, 2)]))
        self.assertFalse(tell_all([one_faced(4, rank, 1) for rank in (0, 1)]))
        self.assertFalse(tell_all([(1, 0, 1), (2, 0, 2), (3, 0, 3)]))

    def test_fewest(self):
        self.same([fewest_tests(ranks) for ranks in (1, 2, 3, 10, 10 ** 28)], [1, 1, 2, 9, 10 ** 28 - 1])
        for ranks in range(1, 9):
            self.assertTrue(tell_all(one_faced_tests(ranks, list(range(fewest_tests(ranks))))))
        check_number(self, "ranks", (0, -1), fewest_tests)

    def test_greatest(self):
        chooser = chooser_of(595)
        for most in (10 ** 28, 10 ** 60):
            cup = Cup(some_dice(chooser, 8, 10, most))
            self.assertIs(self.ends_soon(2, tell_all, cup), False)
            self.ends_soon(2, unlike_pair, cup)
            self.check(cup)
            full = Cup(some_dice(chooser, 8, 9, most))
            self.assertTrue(self.check(full))


class OneFacedTest(DiceTest):
    def test_cups(self):
        self.same(one_faced_tests(3, [2, 0]).dice, ((1, 0, 0), (0, 0, 1)))
        self.assertIs(type(one_faced_tests(1, (0,))), Cup)
        for ranks in range(1, 6):
            for tested in itertools.chain.from_iterable(
                itertools.combinations(range(ranks), size) for size in range(1, ranks + 1)
            ):
                cup = one_faced_tests(ranks, tested[::-1])
                self.same(cup.dice, tuple(one_faced(ranks, rank, 1) for rank in tested))
                self.assertIs(tell_all(cup), ranks - len(tested) <= 1)

    def test_cup_errors(self):
        check_number(self, "ranks", (0, -1), lambda value: one_faced_tests(value, None))
        for value in NO_ROWS:
            self.fails(BadSet, {"place": -1}, one_faced_tests, 3, value)
        for value in NO_INTS + (-1, 3, 1):
            self.fails(BadSet, {"place": 1}, one_faced_tests, 3, (1, value))
        for value in ((), []):
            self.fails(BadCup, {"place": -1}, one_faced_tests, 3, value)

    def test_numbers(self):
        for ranks in range(1, 6):
            for number in range(1, 5):
                dice = dice_with(ranks, number)
                for taken in itertools.product((False, True), repeat=ranks):
                    tested = [rank for rank in range(ranks) if taken[rank]][::-1]
                    rows = [tuple(leads_told(ranks, tested, die)) for die in dice]
                    told = len(set(rows)) == len(rows)
                    self.assertIs(tells_number(ranks, number, tested), told)
                    self.check_twins(ranks, number, tuple(tested), told)

    def check_twins(self, ranks, number, tested, told):
        """Twins of the form that is told, unless there are none."""
        pair = twins(ranks, number, tested)
        self.assertEqual(pair is None, told)
        if pair is None:
            return
        one, two = pair
        for die in pair:
            self.assertTrue(type(die) is tuple and len(die) == ranks and min(die) >= 0)
            self.assertEqual(sum(die), number)
        self.assertNotEqual(one, two)
        self.assertEqual(leads_told(ranks, tested, one), leads_told(ranks, tested, two))
        steps = [a - b for a, b in zip(one, two)]
        held = [rank for rank, step in enumerate(steps) if step]
        low, high = held[0], held[-1]
        self.assertEqual(held, list(range(low, high + 1)))
        self.assertTrue(low not in tested and high not in tested and high - low <= number)
        self.assertTrue(all(rank in tested for rank in held[1:-1]))
        if steps[low] < 0:
            steps = [-step for step in steps]
        told_steps = [1] + [2 * (-1) ** place for place in range(1, high - low)] + [(-1) ** (high - low)]
        self.assertEqual(steps[low:high + 1], told_steps)
        self.assertEqual(sum(steps), 0)

    def test_known_ones(self):
        self.same([tells_number(3, 1, [1]), tells_number(3, 2, [1])], [True, False])
        self.same([tells_number(1, 9, []), tells_number(2, 1, []), tells_number(4, 9, [3, 1, 0]), tells_number(4, 9, [0, 1, 2, 3])],
                  [True, False, True, True])
        # just as far apart as there are faces, and one farther
        self.same([tells_number(6, 5, [1, 2, 3, 4]), tells_number(6, 4, [4, 3, 2, 1])], [False, True])
        self.same([twins(6, 4, [1, 2, 3, 4]), twins(1, 3, ())], [None, None])
        self.check_twins(6, 10 ** 28, (1, 2, 3, 4), False)
        self.check_twins(9, 7, (2, 3, 4, 5, 6, 7), False)

    def test_errors(self):
        for call in (tells_number, twins):
            check_ranks_number_tested(self, call)


class DieToldTest(DiceTest):
    def test_all_small_dice(self):
        for ranks in range(1, 5):
            for number in range(1, 5):
                dice = dice_with(ranks, number)
                for left in [None] + list(range(ranks)):
                    tested = [rank for rank in range(ranks) if rank != left][::-1]
                    found = {tuple(leads_told(ranks, tested, die)): die for die in dice}
                    self.assertEqual(len(found), len(dice))
                    size = len(tested)
                    for leads in itertools.product(range(-number - 1, number + 2), repeat=min(size, 3)):
                        leads = leads + (0,) * (size - len(leads))
                        self.same(die_told(ranks, number, tested, list(leads)), found.get(leads))
                    for leads, die in found.items():
                        self.same(die_told(ranks, number, tuple(tested), leads), die)

    def test_known_ones(self):
        self.same(die_told(3, 2, [0, 2], [1, -1]), (1, 0, 1))
        self.same([die_told(1, 7, (), []), die_told(1, 7, [0], [0]), die_told(1, 7, [0], (1,))], [(7,), (7,), None])
        # the order of the tested ranks does not matter, the leads go by the ranks
        self.same([die_told(3, 2, [2, 0], [1, -1]), die_told(3, 2, [2, 0], [-1, 1])], [(1, 0, 1), None])

    def test_greatest(self):
        chooser = chooser_of(596)
        for _ in range(50):
            ranks = chooser.choice((10, 300))
            die = some_die(chooser, ranks, 10 ** 28)
            left = chooser.choice((None, 0, ranks - 1, chooser.randrange(ranks)))
            tested = [rank for rank in range(ranks) if rank != left]
            chooser.shuffle(tested)
            leads = leads_told(ranks, tested, die)
            self.same(self.ends_soon(1, die_told, ranks, sum(die), tested, leads), die)
            leads[chooser.randrange(len(leads))] += chooser.choice((-10 ** 30, 10 ** 30))
            self.assertIsNone(die_told(ranks, sum(die), tested, leads))

    def test_errors(self):
        check_ranks_number_tested(self, die_told, (None,))
        for value in NO_ROWS:
            self.fails(BadNumber, {"name": "leads"}, die_told, 3, 2, [0], value)
        for value in NO_INTS:
            self.fails(BadNumber, {"name": "leads"}, die_told, 3, 2, [], [0, value])
        for leads in ((), [0], [0, 0, 0]):
            self.fails(OtherSize, {"first": 2, "second": len(leads)}, die_told, 4, 2, [0, 1], leads)
        self.fails(TooMany, {"name": "tested"}, die_told, 4, 2, [0, 1], [0, 0])
        self.fails(TooMany, {"name": "tested"}, die_told, 2, 2, [], ())


if __name__ == "__main__":
    unittest.main()
