"""Points 80 to 83: rings."""

import itertools
import math
import unittest
from fractions import Fraction

from dicewins.best import best_mix
from dicewins.chains import closing_turn, rests
from dicewins.cups import Cup
from dicewins.dice import is_one_faced
from dicewins.errors import BadNumber, OtherSize, TooMany
from dicewins.follows import standing_pair
from dicewins.further import further
from dicewins.rings import equal_ring, is_ring, least_many, ring_for
from dicewins.tables import table_of
from dicewins.throws import chance, half_chance
from helping import NO_INTS, DiceTest, chooser_of, digits_of, some_dice, worth_of
from test_chains import NO_CHANCES, check_losses, fractions_for, passed, told_place
from test_cups import check_cup
from test_paths import CUP, check_gap_die


def told_turn(chances):
    """The least closing turn and its place, None if there is none."""
    losses = [1 - value for value in chances]
    for start in range(len(losses)):
        place = told_place(losses[start:] + losses[:start])
        if place is not None:
            return start, place
    return None


def round_of(cup, call):
    """What the call tells of each die and the next one, as Fractions."""
    dice = list(cup)
    return [worth_of(call(one, two)) for one, two in zip(dice, dice[1:] + dice[:1])]


def has_ring(*chances):
    """True if ring_for gives a ring."""
    return ring_for(chances) is not None


class RingTest(DiceTest):
    def check(self, chances):
        """The ring of point 81, or none; whether there is one."""
        found = ring_for(passed(chances))
        half = ring_for(tuple(passed(chances)), half=True)
        turn = told_turn(chances)
        self.assertEqual(found is None, turn is None)
        self.assertEqual(found, half)
        if turn is None:
            return False
        self.assertIs(type(found), Cup)
        many = len(chances)
        start, place = turn
        self.assertEqual(found.many, many)
        self.assertTrue(found.is_deck())
        self.assertLessEqual(found.ranks, many + place - 1)
        self.assertLessEqual(digits_of(*found), 800)
        got = round_of(found, chance)
        self.assertTrue(all(one >= two for one, two in zip(got, chances)))
        self.assertEqual(got, round_of(found, half_chance))
        self.assertIs(is_ring(found, passed(chances)), True)
        self.assertIs(is_ring(found, passed(chances), half=True), True)
        self.check_shape(found, chances, start, place, got)
        return True

    def check_shape(self, cup, chances, start, place, got):
        """The faces of the dice and the exact chances, as told."""
        many = len(chances)
        losses = [1 - chances[(start + number) % many] for number in range(many)]
        found = [worth_of(rest) for rest in rests(passed(losses))]
        self.assertTrue(is_one_faced(cup[start]))
        for number in range(1, many):
            die = [entry for entry in cup[(start + number) % many] if entry]
            if number < place:
                parts = [Fraction(entry, sum(die)) for entry in die]
                upper = losses[number - 1] / found[number - 1]
                self.assertEqual(parts, [found[number]] + ([upper] if upper else []))
                before = (start + number - 1) % many
                self.assertEqual(got[before], chances[before])
            else:
                self.assertEqual(len(die), 1)

    def test_rows(self):
        chooser = chooser_of(411)
        seen = []
        for _ in range(1500):
            low = chooser.choice((0, Fraction(1, 2), Fraction(3, 5)))
            chances = fractions_for(chooser, chooser.randint(2, 7), low, chooser.choice((Fraction(3, 4), 1)))
            seen.append((self.check(chances), len(chances)))
        for told in (True, False):
            self.assertEqual({many for closed, many in seen if closed is told}, {2, 3, 4, 5, 6, 7})

    def test_all_small_rows(self):
        for bottom, many in ((4, 2), (3, 3), (4, 3), (3, 4)):
            for row in itertools.product([Fraction(k, bottom) for k in range(bottom + 1)], repeat=many):
                self.check(list(row))

    def test_known_ones(self):
        self.assertIsNone(ring_for([(2, 3)] * 3))
        self.assertIsNone(ring_for([1, 1]))
        self.same(ring_for([0, 0]).many, 2)
        self.assertTrue(self.check([Fraction(0), Fraction(1), Fraction(1)]))
        self.assertTrue(self.check([Fraction(1), Fraction(1), Fraction(0)]))
        # a loss of 0 in the chain leaves a die one-faced
        self.assertTrue(self.check([Fraction(1), Fraction(1, 2), Fraction(1, 2)]))
        self.assertTrue(is_one_faced(ring_for([1, (1, 2), (1, 2)])[1]))

    def test_every_cup_has_a_closing_turn(self):
        chooser = chooser_of(412)
        for _ in range(300):
            cup = Cup(some_dice(chooser, chooser.randint(2, 5), chooser.randint(1, 6), 3))
            for call in (chance, half_chance):
                told = [call(one, two) for one, two in zip(cup, list(cup)[1:] + [cup[0]])]
                self.assertIsNotNone(ring_for(told))
                self.assertIs(is_ring(cup, told, half=call is half_chance), True)

    def test_great_rows(self):
        chooser = chooser_of(413)
        rings = 0
        for trial in range(40):
            low = 70 * 10 ** 4 + 10 ** 3 * trial
            chances = [Fraction(chooser.randint(low, 77 * 10 ** 4), 10 ** 6 - chooser.randint(0, 99)) for _ in range(16)]
            found = self.ends_soon(1, ring_for, passed(chances))
            rings += found is not None
            self.check(chances)
        self.assertTrue(0 < rings < 40)

    def test_what_was_returned(self):
        chooser = chooser_of(414)
        cups = []
        while len(cups) < 5:
            chances = [(chooser.randint(6 * 10 ** 5, 75 * 10 ** 4), 10 ** 6 - 1) for _ in range(6)]
            cup = ring_for(chances)
            if cup is not None:
                cups.append(cup)
                self.assertTrue(self.ends_soon(2, is_ring, cup, chances))
                self.ends_soon(2, best_mix, table_of(cup))
                self.ends_soon(2, standing_pair, cup)
                found = self.ends_soon(2, lambda: further(cup, beating=[0, 1], losing=[2]))
                self.assertTrue(found.shows(cup, [[0, 1], [2], []]))
                if found.WORD == "found":
                    check_gap_die(self, cup, found.die)

    def test_errors(self):
        check_losses(self, ring_for, "chances", 2)
        check_losses(self, lambda value: ring_for(value, half=True), "chances", 2)
        with self.assertRaises(TypeError):
            ring_for([0, 0], True)


class AskedRingTest(DiceTest):
    def test_by_its_words(self):
        chooser = chooser_of(421)
        seen = []
        for _ in range(600):
            many = chooser.randint(2, 4)
            cup = Cup(some_dice(chooser, many, 3, 2))
            chances = fractions_for(chooser, many, 0, Fraction(2, 3), 4)
            for half, call in ((False, chance), (True, half_chance)):
                # the very chances, and a little more
                got = round_of(cup, call)
                told = all(one >= two for one, two in zip(got, chances))
                self.assertIs(is_ring(cup, passed(chances), half=half), told)
                self.assertIs(is_ring(list(cup), passed(got), half=half), True)
                place = chooser.randrange(many)
                if got[place] < 1:
                    got[place] += (1 - got[place]) / 10 ** 9
                    self.assertIs(is_ring(cup, passed(got), half=half), False)
                seen.append(told)
            self.assertIs(is_ring(cup, passed(chances)), all(a >= b for a, b in zip(round_of(cup, chance), chances)))
        self.assertGreater(min(seen.count(True), seen.count(False)), 100)

    def test_errors(self):
        check_cup(self, lambda value: is_ring(value, None))
        check_losses(self, lambda value: is_ring(CUP, value), "chances", 2)
        self.fails(OtherSize, {"first": 3, "second": 2}, is_ring, CUP, [0, 0])
        self.fails(OtherSize, {"first": 1, "second": 2}, is_ring, [(1,)], [0, 0])
        self.fails(OtherSize, {"first": 3, "second": 4}, is_ring, CUP, [0] * 4, half=True)


class EqualTest(DiceTest):
    def test_least_numbers(self):
        for bottom in range(1, 60):
            for top in range(bottom + 1):
                value = Fraction(top, bottom)
                if value >= Fraction(3, 4):
                    self.assertIsNone(least_many((top, bottom)))
                    self.assertIsNone(equal_ring(7, (top, bottom)))
                elif value > Fraction(74, 100):
                    self.fails(TooMany, {"name": "chance"}, least_many, (top, bottom))
                else:
                    least = least_many([top, bottom])
                    self.assertIs(type(least), int)
                    self.assertGreaterEqual(least, 2)
                    cup = equal_ring(least, (top, bottom))
                    self.assertEqual(cup, ring_for([value.as_integer_ratio()] * least))
                    self.assertTrue(is_ring(cup, [(top, bottom)] * least))
                    self.assertIsNotNone(equal_ring(least + 1, (top, bottom)))
                    if least > 2:
                        self.assertIsNone(equal_ring(least - 1, (top, bottom)))
                    self.assertEqual(least == 2, value <= Fraction(1, 2))
                    self.assertEqual(least <= 3, value * value + value <= 1)
                    self.assertEqual(least <= 4, value <= Fraction(2, 3))

    def test_known_ones(self):
        for value, told in (
            (0, 2), ((1, 2), 2), ((2, 3), 4), ((3, 4), None), (1, None), ((501, 1000), 3), ((5, 8), 4), ((3, 5), 3),
            ((74, 100), told_many(Fraction(74, 100))), ((739999, 10 ** 6), told_many(Fraction(739999, 10 ** 6))),
        ):
            self.same(self.ends_soon(1, least_many, value), told)
        self.fails(TooMany, {"name": "chance"}, least_many, (740001, 10 ** 6))
        self.fails(TooMany, {"name": "chance"}, least_many, (749999, 10 ** 6))
        for many in range(2, 17):
            self.assertIsNone(equal_ring(many, (3, 4)))
            self.assertIsNone(equal_ring(many, 1))
            self.assertIsNotNone(equal_ring(many, (1, 2)))

    def test_errors(self):
        for value in NO_INTS + (1, 0, -2):
            self.fails(BadNumber, {"name": "many"}, equal_ring, value, None)
        for value in NO_CHANCES + ([1, 2, 3], None, True):
            self.fails(BadNumber, {"name": "chance"}, equal_ring, 3, value)
            self.fails(BadNumber, {"name": "chance"}, least_many, value)


def told_many(value):
    """The place where the chain of equal losses closes."""
    return told_place([1 - value] * 100)


class PutInTest(DiceTest):
    def test_examples(self):
        self.assertEqual([has_ring(1, (1, 2), (1, 2)), has_ring(1, (1, 2), 1, (1, 2))], [True, False])
        grid = [Fraction(k, 10) for k in range(11)]
        for t, u, v in itertools.product(grid, repeat=3):
            told = t + u * v <= 1 or u + v * t <= 1 or v + t * u <= 1
            self.assertEqual(ring_for(passed([t, u, v])) is not None, told)
        for t, u in itertools.product(grid, repeat=2):
            self.assertEqual(ring_for(passed([t, u])) is not None, t + u <= 1)

    def test_rows_that_keep_their_ring(self):
        chooser = chooser_of(422)
        seen = 0
        for _ in range(500):
            chances = fractions_for(chooser, chooser.randint(2, 6), Fraction(1, 3), 1, 6)
            there = ring_for(passed(chances)) is not None
            start = chooser.randrange(len(chances))
            self.assertEqual(ring_for(passed(chances[start:] + chances[:start])) is not None, there)
            self.assertEqual(ring_for(passed(chances[::-1])) is not None, there)
            if there:
                lowered = [value * chooser.choice((1, Fraction(4, 5))) for value in chances]
                self.assertIsNotNone(ring_for(passed(lowered)))
                if len(chances) >= 3 and 1 in chances:
                    place = chances.index(1)
                    self.assertIsNotNone(ring_for(passed(chances[:place] + chances[place + 1:])))
                    seen += 1
            self.assertIsNotNone(ring_for(passed(chances + [Fraction(0)])))
        self.assertGreater(seen, 30)

    def test_chances_put_in(self):
        chooser = chooser_of(423)
        for _ in range(400):
            chances = fractions_for(chooser, chooser.randint(2, 5), Fraction(1, 3), 1, 6)
            losses = [1 - value for value in chances]
            for start in range(len(chances)):
                place = told_place(losses[start:] + losses[:start])
                whole = chances[:start] + [Fraction(1)] + chances[start:]
                self.assertEqual(ring_for(passed(whole)) is not None, place is not None)
                if place is not None:
                    more = chances[:start] + fractions_for(chooser, 1) + chances[start:]
                    turned = [1 - value for value in more[start + 1:] + more[:start + 1]]
                    self.assertEqual(told_place(turned), place)
                    self.assertIsNotNone(closing_turn(passed(more)))

    def test_never_three_quarters(self):
        chooser = chooser_of(424)
        for _ in range(200):
            cup = Cup(some_dice(chooser, chooser.randint(2, 6), 6, 3))
            self.assertLess(min(round_of(cup, chance)), Fraction(3, 4))
            self.assertLess(min(round_of(cup, half_chance)), Fraction(3, 4))
        self.assertEqual(math.gcd(*ring_for([(1, 3), (2, 3)])[0]), 1)


if __name__ == "__main__":
    unittest.main()
