"""Point 68: the greatest lead of one more die."""

import itertools
import unittest
from fractions import Fraction

from dicewins.cups import Cup
from dicewins.dice import faces, stands_over
from dicewins.errors import BadNumber, OtherSize
from dicewins.fewest import thrown_wide
from dicewins.follows import mix_under
from dicewins.making import cup_for
from dicewins.most import Most, most_lead
from dicewins.paths import gains, leads_over
from helping import (
    NO_INTS, NO_ROWS, DiceTest, chooser_of, digits_of, is_lowest, some_dice, some_die, some_table, worth_of,
)
from test_cups import check_cup
from test_paths import CUP, check_gap_die, some_cup

GREAT = 10 ** 60


def some_bounds(chooser, cup, die):
    """Bounds for some dice other than the die, at times the least ones."""
    found = []
    for number, other in enumerate(cup):
        if number == die or chooser.random() < 0.25:
            found.append(None)
        else:
            low = -faces(other)
            bottom = chooser.randint(1, 4)
            top = chooser.choice((low * bottom, 0, chooser.randint(low * bottom, -low * bottom)))
            found.append(chooser.choice(((top, bottom), [top, bottom], low, 0)))
    return found


class MostTest(DiceTest):
    def check(self, cup, die, bounds):
        """The die keeps the bounds, and the weights show that no die has a greater lead; the value."""
        found = most_lead(cup, die, bounds)
        self.assertIs(type(found), Most)
        told = [None if bound is None else worth(bound) for bound in bounds]
        check_gap_die(self, cup, found.die)
        count = sum(found.die)
        leads = leads_over(cup, found.die)
        self.assertTrue(is_lowest(found.value))
        value = worth_of(found.value)
        self.assertEqual(Fraction(leads[die], count), value)
        for lead, bound in zip(leads, told):
            self.assertTrue(bound is None or lead <= bound * count)
        held = sum(1 for entry in found.die if entry)
        self.assertLessEqual(held, 1 + sum(bound is not None for bound in bounds))
        self.check_weights(cup, die, told, found, value)
        self.assertLessEqual(digits_of(found.die, found.value, *found.weights), 800)
        return value

    def check_weights(self, cup, die, told, found, value):
        """The greatest number of point 68 for the weights is the value."""
        self.assertIs(type(found.weights), tuple)
        self.assertEqual(len(found.weights), len(cup))
        self.assertTrue(all(is_lowest(weight) and weight[0] >= 0 for weight in found.weights))
        for weight, bound in zip(found.weights, told):
            if bound is None:
                self.same(weight, (0, 1))
        numbers = []
        for gap in gains(cup):
            part = sum(
                worth_of(weight) * (gain - bound)
                for weight, gain, bound in zip(found.weights, gap, told) if bound is not None
            )
            numbers.append(gap[die] - part)
        self.assertEqual(max(numbers), value)

    def test_small_cups(self):
        chooser = chooser_of(341)
        below_zero = 0
        for _ in range(800):
            cup = some_cup(chooser)
            die = chooser.randrange(len(cup))
            bounds = some_bounds(chooser, cup, die)
            value = self.check(cup, die, bounds)
            below_zero += value < 0
            # no die that is made by chance does better
            more = some_die(chooser, 2 * cup.ranks + 1, 2)
            leads = leads_over(cup, more)
            told = [None if bound is None else worth(bound) for bound in bounds]
            if all(bound is None or lead <= bound * sum(more) for lead, bound in zip(leads, told)):
                self.assertLessEqual(Fraction(leads[die], sum(more)), value)
        self.assertGreater(below_zero, 50)

    def test_edges(self):
        self.assertEqual(self.check(Cup([(3,)]), 0, [None]), 3)
        self.assertEqual(self.check(CUP, 1, [None, None, None]), 3)
        self.assertEqual(self.check(CUP, 2, (-3, (-3, 1), None)), -3)
        self.assertEqual(self.check(CUP, 2, [0, None, None]), 0)
        self.assertEqual(self.check(CUP, 2, [-1, None, None]), -1)
        self.assertEqual(self.check(CUP, 0, [None, (-3, 2), None]), 0)
        self.assertEqual(self.check(Cup([(1, 0, 1), (0, 2, 0)]), 1, [0, None]), 2)
        self.assertEqual(self.check(Cup([(1, 1), (2, 2)]), 0, [None, (1, 2)]), Fraction(1, 4))
        self.assertEqual(self.check(CUP, 0, [None, 10 ** 60, (7, 10 ** 60)]), 2 + Fraction(7, 3 * 10 ** 60))

    def test_raised_and_left_out_bounds(self):
        chooser = chooser_of(342)
        for _ in range(150):
            cup = some_cup(chooser)
            die = chooser.randrange(len(cup))
            one, two = some_bounds(chooser, cup, die), some_bounds(chooser, cup, die)
            value = self.check(cup, die, one)
            looser = [None if chooser.random() < 0.3 else bound for bound in one]
            self.assertGreaterEqual(self.check(cup, die, looser), value)
            raised = [None if bound is None else (worth(bound) + 1).as_integer_ratio() for bound in one]
            self.assertGreaterEqual(self.check(cup, die, raised), value)
            both = [None if a is None or b is None else ((worth(a) + worth(b)) / 2).as_integer_ratio()
                    for a, b in zip(one, two)]
            first = [None if b is None else a for a, b in zip(one, two)]
            second = [None if a is None else b for a, b in zip(one, two)]
            least = (self.check(cup, die, first) + self.check(cup, die, second)) / 2
            self.assertGreaterEqual(self.check(cup, die, both), least)

    def test_bounds_of_zero(self):
        chooser = chooser_of(343)
        seen = []
        for _ in range(300):
            cup = some_cup(chooser, 4, 3, 2)
            if len(cup) > 1:
                die, *numbers = chooser.sample(range(len(cup)), chooser.randint(2, len(cup)))
                value = self.check(cup, die, [0 if number in numbers else None for number in range(len(cup))])
                self.assertGreaterEqual(value, 0)
                self.assertEqual(value == 0, mix_under(cup, die, numbers) is not None)
                if len(numbers) == 1:
                    self.assertEqual(value == 0, stands_over(cup[die], cup[numbers[0]]))
                seen.append(value == 0)
        self.assertGreater(min(seen.count(True), seen.count(False)), 30)

    def test_small_cups_in_all_ways(self):
        # on one gap or two, no die does better than told
        for dice in itertools.product([(1, 0), (0, 1), (1, 1), (2, 1)], repeat=2):
            cup = Cup(dice)
            for bound in range(-2, 3):
                if bound >= -faces(dice[1]):
                    value = self.check(cup, 0, [None, bound])
                    for one, two in itertools.product(gains(cup), repeat=2):
                        for part in (Fraction(k, 12) for k in range(13)):
                            first, second = (a * part + b * (1 - part) for a, b in zip(one, two))
                            self.assertTrue(second > bound or first <= value)

    def test_great_cups(self):
        chooser = chooser_of(344)
        for _ in range(10):
            cup = Cup(some_dice(chooser, 6, 12, GREAT))
            for bounds in (
                [(chooser.randint(-GREAT, GREAT), chooser.randint(GREAT // 2, GREAT)) for _ in range(6)],
                [chooser.randint(-GREAT, GREAT) for _ in range(6)], [0] * 6, [(chooser.randint(-9, 9), GREAT) for _ in range(6)],
            ):
                die = chooser.randrange(6)
                bounds[die] = None
                self.ends_soon(3, self.check, cup, die, bounds)

    def test_what_was_returned(self):
        chooser = chooser_of(345)
        self.ends_soon(5, self.check, cup_for(some_table(chooser, 6, 300)), 2, [0, 0, None, 1, (1, 2), 0])
        made = thrown_wide(some_table(chooser, 6, 10 ** 6), [10 ** 12, 1, 2, 3, 4, 5]).cup
        self.ends_soon(5, self.check, made, 2, [0, 0, None, 1, (1, 2), 0])

    def test_attributes(self):
        self.assertEqual(vars(Most(1, 2, 3)), {"die": 1, "value": 2, "weights": 3})

    def test_errors(self):
        check_cup(self, lambda value: most_lead(value, None, None))
        for value in NO_INTS + (-1, 3):
            self.fails(BadNumber, {"name": "die"}, most_lead, CUP, value, None)
        for value in NO_ROWS + ([None, 0, 1.5], (None, True, 0), [None, (1, 0), 0], [None, "1", 0], [None, (1, 2, 3)]):
            self.fails(BadNumber, {"name": "bounds"}, most_lead, CUP, 0, value)
        self.fails(OtherSize, {"first": 3, "second": 2}, most_lead, CUP, 0, [1, -99])
        self.fails(OtherSize, {"first": 3, "second": 4}, most_lead, CUP, 0, [None] * 4)
        for bounds in ([0, None, None], [(1, 2), 0, 0], [None, -4, 0], [None, None, (-301, 100)]):
            self.fails(BadNumber, {"name": "bounds"}, most_lead, CUP, 0, bounds)


def worth(bound):
    """The Fraction of a bound that is passed."""
    return Fraction(bound) if isinstance(bound, int) else Fraction(*bound)


if __name__ == "__main__":
    unittest.main()
