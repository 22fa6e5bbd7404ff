"""Points 62 to 67, 70 and 72: one more die."""

import itertools
import unittest

from dicewins.cups import Cup
from dicewins.dice import below, faces, is_like, mixed_die, stands_over
from dicewins.errors import BadCup, BadKind, BadNumber, BadSet, BadWeights, OtherSize
from dicewins.fewest import thrown_wide
from dicewins.further import between, closer, further, leads_free, leads_row
from dicewins.making import cup_for
from dicewins.paths import Barred, Found, gains, leads_over
from dicewins.rings import is_ring
from dicewins.tables import table_of
from dicewins.throws import beats, half_chance, lead
from dicewins.weighing import Weighing
from helping import (
    NO_INTS, NO_ROWS, DiceTest, chooser_of, digits_of, is_short, some_dice, some_die, some_table, worth_of,
)
from test_cups import check_cup
from test_paths import CUP, check_gap_die, is_bar_told, is_of_kind, some_cup, some_kind

GREAT = 10 ** 60


def check_set(test, call):
    """The call raises BadSet for what is no set of three dice."""
    for value in NO_ROWS:
        test.fails(BadSet, {"place": -1}, call, value)
    for value in NO_INTS + (-1, 3, 1):
        test.fails(BadSet, {"place": 1}, call, (1, value))


def check_plain_row(test, call):
    """The call raises BadWeights for what is no row of at least one integer."""
    for value in NO_ROWS + ((), [], Weighing((1, 2, 3))):
        test.fails(BadWeights, {"place": -1}, call, value)
    for value in NO_INTS:
        test.fails(BadWeights, {"place": 1}, call, (-1, value, None))


def held_gaps(die):
    """The number of gaps with faces."""
    return sum(1 for entry in die if entry)


def beating_row(dice):
    """The cup of the dice in a row in which each one beats the next one."""
    row = []
    for die in dice:
        place = next((place for place, other in enumerate(row) if beats(die, other)), len(row))
        row.insert(place, die)
    return Cup(row)


class FurtherTest(DiceTest):
    def check(self, cup, kind):
        """A die of the kind or a bar, which its answer shows; whether there is a die."""
        found = further(cup, beating=kind[0], losing=kind[1], tying=kind[2])
        self.assertEqual(found.size, 2 * cup.ranks + 1)
        self.assertIs(found.shows(cup, kind), True)
        if found.WORD == "found":
            self.assertIs(type(found), Found)
            check_gap_die(self, cup, found.die)
            self.assertTrue(is_of_kind(cup, kind, found.die))
            self.same(found.number, 1)
            self.assertLessEqual(digits_of(found.die), 800)
        else:
            self.assertIs(type(found), Barred)
            self.assertTrue(is_bar_told(cup, kind, found.weights))
            self.assertTrue(is_short(found.weights))
            self.assertLessEqual(digits_of(found.weights), 800)
        return found.WORD == "found"

    def test_small_cups(self):
        chooser = chooser_of(311)
        seen = {}
        for _ in range(1500):
            cup = some_cup(chooser)
            kind = some_kind(chooser, len(cup))
            key = (self.check(cup, kind), bool(kind[2]))
            seen[key] = seen.get(key, 0) + 1
        self.assertGreater(min(seen.get((found, tied), 0) for found in (True, False) for tied in (True, False)), 50)

    def test_sets_by_name(self):
        self.assertEqual(further(CUP, beating=[0]).WORD, "found")
        self.assertEqual(further(CUP, losing=(2, 0)).WORD, "found")
        self.assertEqual(further(CUP, losing=[2], beating=[0], tying=[1]).WORD, "found")
        self.assertEqual(further(CUP, beating=[2], tying=[1]).WORD, "barred")
        self.same(further([(2, 1), (1, 2)], beating=[1], losing=[0]).weights, (1, 1))
        with self.assertRaises(TypeError):
            further(CUP, [0])

    def test_one_of_two_sets_alone_is_always_there(self):
        chooser = chooser_of(312)
        for _ in range(100):
            cup = some_cup(chooser)
            numbers = chooser.sample(range(len(cup)), chooser.randint(1, len(cup)))
            self.assertTrue(self.check(cup, [numbers, [], []]))
            self.assertTrue(self.check(cup, [[], numbers, []]))

    def test_edges(self):
        one = Cup([(1,)])
        for kind in ([[0], [], []], [[], [0], []]):
            self.assertTrue(self.check(one, kind))
        like = Cup([(1, 2), (2, 4)])
        self.assertFalse(self.check(like, [[0], [1], []]))
        self.assertFalse(self.check(like, [[0], [], [1]]))
        self.assertTrue(self.check(like, [[0, 1], [], []]))
        singles = Cup([(1, 0, 0), (0, 1, 0), (0, 0, 1)])
        self.assertTrue(self.check(singles, [[0], [2], [1]]))
        self.assertFalse(self.check(singles, [[2], [0], [1]]))

    def test_entries_times_a_great_number(self):
        chooser = chooser_of(313)
        for _ in range(60):
            cup = some_cup(chooser)
            kind = some_kind(chooser, len(cup))
            self.assertEqual(self.check(cup * 10 ** 28, kind), self.check(cup, kind))

    def test_great_cups(self):
        chooser = chooser_of(314)
        for _ in range(20):
            cup = Cup(some_dice(chooser, 6, 12, GREAT))
            kind = some_kind(chooser, 6)
            self.ends_soon(2, self.check, cup, kind)
            # two dice that hardly differ, and a die between them
            close = cup.with_die(tuple(entry + 1 for entry in cup[0])).taken([0, 6, 1, 2, 3, 4])
            self.ends_soon(2, self.check, close, [[0], [1], [2]])

    def test_what_was_returned(self):
        chooser = chooser_of(315)
        cup = cup_for(some_table(chooser, 6, 300))
        for kind in ([[0, 1], [2], [3, 4]], [[5], [4, 3, 2, 1, 0], []]):
            self.ends_soon(5, self.check, cup, kind)
        made = thrown_wide(some_table(chooser, 6, 10 ** 6), [10 ** 12, 1, 2, 3, 4, 5]).cup
        self.ends_soon(5, self.check, made, [[0], [1, 2], [3]])
        found = further(made, beating=[0])
        wide = made.taken([0, 1, 2]).wide().with_die(found.die)
        self.ends_soon(5, self.check, wide, [[3], [0, 1], []])

    def test_mixes_of_further_dice(self):
        chooser = chooser_of(316)
        for _ in range(200):
            cup = some_cup(chooser)
            one, two = some_dice(chooser, 2, 2 * cup.ranks + 1, 2)
            mixed = mixed_die((chooser.randint(1, 3), chooser.randint(1, 3)), one, two)
            for first, second, both in zip(leads_over(cup, one), leads_over(cup, two), leads_over(cup, mixed)):
                if first >= 0 and second >= 0:
                    self.assertEqual(both > 0, first > 0 or second > 0)
            weights = [chooser.randint(0, 2) for _ in cup]
            if any(weights) and lead(one, mixed_die(weights, *cup.wide())) > 0:
                self.assertTrue(any(entry > 0 for entry, weight in zip(leads_over(cup, one), weights) if weight))

    def test_errors(self):
        check_cup(self, lambda value: further(value, beating=None))
        check_set(self, lambda value: further(CUP, beating=value, losing=None, tying=None))
        check_set(self, lambda value: further(CUP, beating=[0], losing=value, tying=None))
        check_set(self, lambda value: further(CUP, beating=[0], losing=[0], tying=value))
        for told, die in (
            ({}, -1), ({"tying": [0, 1]}, -1), ({"beating": [2, 1], "losing": [1, 2]}, 1),
            ({"beating": [2], "tying": [2, 0]}, 2), ({"losing": [0], "tying": [0]}, 0),
        ):
            self.fails(BadKind, {"die": die}, further, CUP, **told)


class ToldLeadsTest(DiceTest):
    def check_row(self, cup, row, number):
        """A die with the told leads and faces up to one factor, or weights that show that there is none."""
        many = len(cup)
        found = leads_row(cup, row, number)
        self.assertEqual(found.size, 2 * cup.ranks + 1)
        if found.WORD == "found":
            check_gap_die(self, cup, found.die)
            self.same(found.number, number)
            self.assertEqual(found.whole * number, sum(found.die))
            self.assertEqual(leads_over(cup, found.die), tuple(found.whole * entry for entry in row))
            self.assertLessEqual(held_gaps(found.die), many + 1)
            self.assertLessEqual(digits_of(found.die), 800)
        else:
            weights = found.weights
            self.assertEqual(len(weights), many)
            most = max(sum(weight * gain for weight, gain in zip(weights, gap)) for gap in gains(cup))
            self.assertGreater(sum(weight * entry for weight, entry in zip(weights, row)), most * number)
            self.assertTrue(is_short(weights))
            self.assertLessEqual(digits_of(weights), 800)
        return found.WORD == "found"

    def check_free(self, cup, row):
        """A die with the told leads up to one factor, or weights that show that there is none."""
        many = len(cup)
        found = leads_free(cup, row)
        self.assertEqual(found.size, 2 * cup.ranks + 1)
        if found.WORD == "found":
            check_gap_die(self, cup, found.die)
            self.same(found.number, 1)
            leads = leads_over(cup, found.die)
            if any(row):
                place = next(number for number in range(many) if row[number])
                times = leads[place] // row[place]
                self.assertGreaterEqual(times, 1)
                self.assertEqual(leads, tuple(times * entry for entry in row))
                self.assertLessEqual(held_gaps(found.die), many)
            else:
                self.same(found.die, (1,) + (0,) * (2 * cup.ranks - 1) + (1,))
                self.assertFalse(any(leads))
            self.assertLessEqual(digits_of(found.die), 800)
        else:
            weights = found.weights
            self.assertEqual(len(weights), many)
            for gap in range(cup.ranks + 1):
                self.assertLessEqual(sum(weight * below(die, gap) for weight, die in zip(weights, cup)), 0)
            self.assertEqual(sum(weight * faces(die) for weight, die in zip(weights, cup)), 0)
            self.assertGreater(sum(weight * entry for weight, entry in zip(weights, row)), 0)
            self.assertTrue(is_short(weights))
            self.assertLessEqual(digits_of(weights), 800)
        return found.WORD == "found"

    def check(self, cup, row, number):
        """Both questions; a die with told faces has told leads, too."""
        whole, free = self.check_row(cup, row, number), self.check_free(cup, row)
        self.assertTrue(free or not whole)
        return whole, free

    def test_small_cups(self):
        chooser = chooser_of(321)
        seen = []
        for _ in range(1000):
            cup = some_cup(chooser)
            row = [chooser.randint(-4, 4) for _ in cup]
            seen.append(self.check(cup, row, chooser.randint(1, 4)))
        self.assertEqual(len(set(seen)), 3)
        self.assertGreater(min(seen.count(each) for each in set(seen)), 50)

    def test_leads_of_dice_are_met(self):
        chooser = chooser_of(322)
        for _ in range(200):
            cup = some_cup(chooser)
            die = some_die(chooser, 2 * cup.ranks + 1, 3)
            self.assertEqual(self.check(cup, leads_over(cup, die), sum(die)), (True, True))
            more = [entry + chooser.choice((-1, 1)) * 10 ** 9 for entry in leads_over(cup, die)]
            self.assertFalse(self.check_row(cup, more, sum(die)))

    def test_edges(self):
        self.assertEqual(self.check(Cup([(1,)]), [1], 1), (True, True))
        self.assertEqual(self.check(Cup([(1,)]), [2], 1), (False, True))
        self.assertEqual(self.check(Cup([(1,)]), (-1,), 1), (True, True))
        self.assertEqual(self.check(Cup([(1,), (1,)]), (1, 2), 5), (False, False))
        for cup in (CUP, Cup([(1,)]), Cup([(0, 1), (1, 0)]), Cup([(1, 1)] * 6)):
            self.assertEqual(self.check(cup, [0] * len(cup), 3), (True, True))

    def test_free_cups_take_each_row(self):
        chooser = chooser_of(323)
        cup = Cup([(1, 0, 2), (0, 3, 0)])
        for row in itertools.product(range(-3, 4), repeat=2):
            self.assertTrue(self.check_free(cup, row))
        # the table with one die more is thrown by the wide cup with the die found
        for _ in range(20):
            row = (chooser.randint(-9, 9), chooser.randint(-9, 9))
            found = leads_free(cup, row)
            table = table_of(cup.wide().with_die(found.die))
            self.assertEqual(table[0][1], table_of(cup)[0][1])
            self.assertEqual(table[2][0] * row[1], table[2][1] * row[0])

    def test_great_cups(self):
        chooser = chooser_of(324)
        for _ in range(10):
            cup = Cup(some_dice(chooser, 6, 12, GREAT))
            row = [chooser.randint(-GREAT, GREAT) for _ in range(6)]
            self.ends_soon(2, self.check, cup, row, chooser.randint(1, GREAT))
            counts = [chooser.randint(0, 9) for _ in range(12)] + [1]
            sums = [sum(count * gap[number] for count, gap in zip(counts, gains(cup))) for number in range(6)]
            self.assertEqual(self.ends_soon(2, self.check, cup, sums, sum(counts)), (True, True))

    def test_what_was_returned(self):
        chooser = chooser_of(325)
        cup = cup_for(some_table(chooser, 6, 300))
        self.ends_soon(5, self.check, cup, [1, -1, 2, 0, 3, 5], 7)
        made = thrown_wide(some_table(chooser, 6, 10 ** 6), [10 ** 12, 1, 2, 3, 4, 5]).cup
        self.ends_soon(5, self.check, made, table_of(made)[2], 7)

    def test_errors(self):
        check_cup(self, lambda value: leads_row(value, None, 0))
        check_plain_row(self, lambda value: leads_row(CUP, value, 0))
        for value in NO_INTS + (0, -1):
            self.fails(BadNumber, {"name": "number"}, leads_row, CUP, (1, 2), value)
        self.fails(OtherSize, {"first": 3, "second": 2}, leads_row, CUP, (1, 2), 1)
        check_cup(self, lambda value: leads_free(value, None))
        check_plain_row(self, lambda value: leads_free(CUP, value))
        self.fails(OtherSize, {"first": 3, "second": 4}, leads_free, CUP, (0, 0, 0, 0))
        self.fails(OtherSize, {"first": 1, "second": 2}, leads_free, [(1,)], (1, 2))


class BetweenTest(DiceTest):
    def test_there_exactly_if_the_one_does_not_stand_over_the_other(self):
        chooser = chooser_of(331)
        for _ in range(400):
            cup = some_cup(chooser)
            for upper, lower in itertools.product(range(len(cup)), repeat=2):
                found = between(cup, upper, lower)
                if stands_over(cup[lower], cup[upper]):
                    self.assertIsNone(found)
                else:
                    check_gap_die(self, cup, found)
                    leads = leads_over(cup, found)
                    self.assertLess(leads[upper], 0)
                    self.assertGreater(leads[lower], 0)
                if upper < lower and not is_like(cup[upper], cup[lower]):
                    self.assertFalse(found is None and between(cup, lower, upper) is None)

    def test_known_ones(self):
        self.assertIsNone(between([(1, 0)], 0, 0))
        self.assertIsNone(between([(2, 1), (1, 2)], 0, 1))
        self.assertIsNotNone(between([(2, 1), (1, 2)], 1, 0))
        self.assertIsNone(between([(1, 1), (2, 2)], 1, 0))
        self.assertIsNone(between([[3], [1]], 0, 1))

    def test_great_cups(self):
        chooser = chooser_of(332)
        for _ in range(10):
            cup = Cup(some_dice(chooser, 6, 12, GREAT))
            for upper, lower in ((5, 0), (0, 5), (2, 3), (3, 2)):
                found = self.ends_soon(2, between, cup, upper, lower)
                self.assertEqual(found is None, stands_over(cup[lower], cup[upper]))
                if found is not None:
                    leads = leads_over(cup, found)
                    self.assertTrue(leads[upper] < 0 < leads[lower])
                    self.assertLessEqual(digits_of(found), 800)

    def test_errors(self):
        check_cup(self, lambda value: between(value, None, None))
        for value in NO_INTS + (-1, 3):
            self.fails(BadNumber, {"name": "upper"}, between, CUP, value, None)
            self.fails(BadNumber, {"name": "lower"}, between, CUP, 0, value)


class CloserTest(DiceTest):
    def test_closers(self):
        chooser = chooser_of(333)
        seen = []
        while len(seen) < 300:
            cup = some_cup(chooser, 4, 6, 2)
            if len(cup) > 1 and all(beats(one, two) for one, two in zip(cup, list(cup)[1:])):
                found = closer(cup)
                self.assertEqual(found is None, stands_over(cup[0], cup[len(cup) - 1]))
                if found is not None:
                    check_gap_die(self, cup, found)
                    leads = leads_over(cup, found)
                    self.assertTrue(leads[0] > 0 > leads[-1])
                    # with it each die beats the next one, round the ring
                    ring = cup.wide().with_die(found)
                    halves = [half_chance(one, two) for one, two in zip(ring, list(ring)[1:] + [ring[0]])]
                    self.assertTrue(all(2 * worth_of(half) > 1 for half in halves))
                    self.assertTrue(is_ring(ring, halves, half=True))
                seen.append(found is None)
        self.assertGreater(min(seen.count(True), seen.count(False)), 50)

    def test_known_ones(self):
        self.assertIsNone(closer([(0, 0, 2), (1, 0, 1)]))
        self.assertIsNotNone(closer([(1, 0, 2), (0, 3, 0)]))

    def test_great_cups(self):
        chooser = chooser_of(334)
        for _ in range(10):
            cup = beating_row(some_dice(chooser, 6, 12, GREAT))
            found = self.ends_soon(2, closer, cup)
            self.assertEqual(found is None, stands_over(cup[0], cup[5]))
            if found is not None:
                leads = leads_over(cup, found)
                self.assertTrue(leads[0] > 0 > leads[5])

    def test_errors(self):
        check_cup(self, closer)
        self.fails(BadCup, {"place": -1}, closer, [(1, 0)])
        self.fails(BadCup, {"place": 0}, closer, [(1, 0), (0, 1), (1, 0)])
        self.fails(BadCup, {"place": 0}, closer, [(1, 0), (1, 0)])
        self.fails(BadCup, {"place": 1}, closer, [(0, 0, 1), (0, 1, 0), (0, 1, 0), (0, 0, 1)])
        self.fails(BadCup, {"place": 2}, closer, [(0, 0, 1), (0, 1, 0), (1, 0, 0), (0, 0, 1)])


if __name__ == "__main__":
    unittest.main()
