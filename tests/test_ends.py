"""Points 86 and 87: the last chance, the best cut, and rings whose half chances are just the told ones."""

import itertools
import unittest
from fractions import Fraction

from dicewins.chains import closing_turn, rest_of
from dicewins.cups import Cup
from dicewins.dice import is_one_faced
from dicewins.ends import best_cut, exact_ring, last_chance, last_ring, last_span
from dicewins.rings import is_ring, ring_for
from dicewins.throws import chance, half_chance
from helping import DiceTest, chooser_of, digits_of, is_lowest, some_dice, worth_of
from test_chains import check_losses, fractions_for, passed, told_place, told_rests
from test_rings import round_of, told_turn


def products_told(losses):
    """The products of point 86, by its words, in Fractions; None if the chain closes."""
    if told_place(losses) is not None:
        return None
    return [told_rests(losses[cut:])[-1] * told_rests(losses[:cut][::-1])[-1] for cut in range(len(losses) + 1)]


def last_told(chances):
    """The last chance, by its words."""
    products = products_told([1 - value for value in chances])
    return Fraction(1) if products is None else 1 - min(products)


def span_told(chances):
    """Low and high of point 87, by its words."""
    return 1 - last_told([1 - value for value in chances]), last_told(chances)


class LastTest(DiceTest):
    def check(self, chances):
        """All that is told of the last chance behind the chances; the best cut."""
        last = last_chance(passed(chances))
        told = last_told(chances)
        self.assertTrue(is_lowest(last))
        self.assertEqual(worth_of(last), told)
        products = products_told([1 - value for value in chances])
        cut = None if products is None else products.index(min(products))
        self.same(best_cut(tuple(passed(chances))), cut)
        ring = last_ring(passed(chances))
        self.assertIs(type(ring), Cup)
        self.assertEqual(ring, ring_for(passed(chances) + [last]))
        self.assertTrue(is_ring(ring, passed(chances) + [last]))
        self.same(chance(ring[len(chances)], ring[0]), last)
        if cut is not None:
            self.assertTrue(is_one_faced(ring[cut]))
        return cut

    def test_rows(self):
        chooser = chooser_of(451)
        cuts = set()
        for _ in range(800):
            high = chooser.choice((Fraction(3, 4), 1))
            cuts.add(self.check(fractions_for(chooser, chooser.randint(1, 6), chooser.choice((0, Fraction(3, 5))), high)))
        self.assertTrue({None, 0, 1, 2, 3, 4, 5} <= cuts)

    def test_small_rows(self):
        for bottom, many in ((6, 1), (5, 2), (4, 3)):
            for row in itertools.product([Fraction(k, bottom) for k in range(bottom + 1)], repeat=many):
                self.check(list(row))

    def test_known_ones(self):
        self.same([last_chance([(1, 3)]), best_cut([(1, 3)]), last_ring([(1, 3)]).many], [(2, 3), 0, 2])
        self.same([last_chance([0]), best_cut([0]), last_chance((1,)), best_cut((1,))], [(1, 1), None, (0, 1), 0])
        # (1/2, 1/2) closes, a little more of one chance leaves it open
        self.same([last_chance([(1, 2), (1, 2)]), best_cut([(1, 2), (1, 2)])], [(1, 1), None])
        self.assertLess(worth_of(last_chance([(1, 2), (500001, 10 ** 6)])), 1)
        self.assertIsNotNone(best_cut([(1, 2), (500001, 10 ** 6)]))
        self.same([last_chance([(2, 3), (2, 3)]), best_cut([(2, 3), (2, 3)])], [(5, 9), 1])
        self.same([last_chance([1, 1, 1]), last_chance([1, (1, 2), 1])], [(0, 1), (0, 1)])
        self.assertLess(worth_of(last_chance([(3, 4)] * 9)), Fraction(3, 4))

    def test_greatest(self):
        # just up to the last chance there is a ring
        chooser = chooser_of(452)
        tiny = Fraction(1, 10 ** 9)
        for _ in range(300):
            chances = fractions_for(chooser, chooser.randint(1, 5), chooser.choice((0, Fraction(1, 2))))
            last = last_told(chances)
            for value in (last, last * Fraction(1, 2), max(Fraction(0), last - tiny)):
                self.assertIsNotNone(closing_turn(passed(chances + [value])))
            if last < 1:
                self.assertIsNone(ring_for(passed(chances + [min(Fraction(1), last + tiny)])))

    def test_great_rows(self):
        chooser = chooser_of(453)
        for trial in range(12):
            low = 60 * 10 ** 4 + 10 ** 4 * trial
            many = 15 + trial % 2
            chances = [Fraction(chooser.randint(low, 76 * 10 ** 4), 10 ** 6 - chooser.randint(0, 99)) for _ in range(many)]
            for call in (last_chance, best_cut, last_ring, last_span):
                self.ends_soon(1, call, passed(chances))
            self.check(chances)
            self.assertLessEqual(digits_of(*last_ring(passed(chances))), 800)

    def test_what_was_returned(self):
        chooser = chooser_of(454)
        chances = [(chooser.randint(70 * 10 ** 4, 76 * 10 ** 4), 10 ** 6 - 7) for _ in range(15)]
        ring = last_ring(chances)
        self.assertTrue(self.ends_soon(2, is_ring, ring, chances + [last_chance(chances)]))
        self.assertIsNone(rest_of([(9, 10), last_chance(chances)]))

    def test_errors(self):
        for call in (last_chance, best_cut, last_ring, last_span):
            check_losses(self, call, "chances", 1)
        check_losses(self, exact_ring, "chances", 2)


class ExactTest(DiceTest):
    def check(self, chances):
        """An exact ring is there exactly if the turns of point 87 close; whether it is there."""
        found = exact_ring(passed(chances))
        if len(chances) == 2:
            there = sum(chances) == 1
        else:
            there = told_turn(chances) is not None and told_turn([1 - value for value in chances]) is not None
        self.assertEqual(found is not None, there, chances)
        if there:
            self.assertIs(type(found), Cup)
            self.assertEqual(round_of(found, half_chance), chances)
            self.assertEqual(exact_ring(tuple(passed(chances))), found)
            self.assertLessEqual(digits_of(*found), 800)
        return there

    def test_rows(self):
        chooser = chooser_of(455)
        seen = []
        for _ in range(1000):
            chances = fractions_for(chooser, chooser.randint(2, 6), 0, 1, chooser.choice((3, 12, 100)))
            seen.append((self.check(chances), len(chances)))
        for told in (True, False):
            self.assertTrue({3, 4, 5} <= {many for there, many in seen if there is told})

    def test_all_small_rows(self):
        for bottom, many in ((6, 2), (4, 3), (3, 4), (2, 5)):
            for row in itertools.product([Fraction(k, bottom) for k in range(bottom + 1)], repeat=many):
                self.check(list(row))

    def test_span(self):
        chooser = chooser_of(456)
        tiny = Fraction(1, 10 ** 7)
        inside = []
        for _ in range(300):
            chances = fractions_for(chooser, chooser.randint(1, 5), chooser.choice((0, Fraction(3, 5))))
            found = last_span(passed(chances))
            self.assertIs(type(found), tuple)
            self.assertTrue(is_lowest(found[0]) and is_lowest(found[1]))
            low, high = span_told(chances)
            self.assertEqual([worth_of(value) for value in found], [low, high])
            self.assertLessEqual(low, high)
            # both ends are met, and what lies between them
            part = Fraction(chooser.randint(1, 8), 9)
            for value in (low, high, low + part * (high - low)):
                self.assertTrue(self.check(chances + [value]))
            for value in (low - tiny, high + tiny):
                if 0 <= value <= 1:
                    self.assertFalse(self.check(chances + [value]))
            inside.append(low < high)
        self.assertGreater(min(inside.count(True), inside.count(False)), 20)

    def test_known_ones(self):
        self.same(last_span([(4, 5), (4, 5)]), ((0, 1), (9, 25)))
        self.same([last_span([(1, 3)]), last_span([0]), last_span([1])], [((2, 3),) * 2, ((1, 1),) * 2, ((0, 1),) * 2])
        self.same([exact_ring([(1, 3), (1, 3)]), exact_ring([(1, 3), (2, 3)]).many], [None, 2])
        self.assertIsNone(exact_ring([1, 1]))
        self.assertTrue(self.check([Fraction(1), Fraction(0)]))
        self.assertTrue(self.check([Fraction(0), Fraction(0), Fraction(1)]))
        self.assertIsNone(exact_ring([0, 0, 0]))
        self.assertIsNone(exact_ring([1, 1, 1]))
        self.assertTrue(self.check([Fraction(1, 2)] * 6))

    def test_every_cup_is_within_its_span(self):
        chooser = chooser_of(457)
        for _ in range(400):
            cup = Cup(some_dice(chooser, chooser.randint(2, 5), chooser.randint(1, 6), 3))
            told = [half_chance(one, two) for one, two in zip(cup, list(cup)[1:] + [cup[0]])]
            low, high = last_span(told[:-1])
            self.assertTrue(worth_of(low) <= worth_of(told[-1]) <= worth_of(high))
            self.assertTrue(self.check([worth_of(value) for value in told]))

    def test_great_rows(self):
        chooser = chooser_of(458)
        for _ in range(30):
            chances = [Fraction(chooser.randint(20, 79), 100 - chooser.randint(0, 9)) for _ in range(5)]
            low, high = span_told(chances)
            bottom = chooser.randint(90, 100)
            value = Fraction(int(low * bottom) + 1, bottom)
            if value <= high:
                self.ends_soon(1, exact_ring, passed(chances + [value]))
                self.check(chances + [value])

    def test_what_was_returned(self):
        ring = exact_ring([(99, 100), (98, 99), (1, 97), (1, 2), (49, 97), (1, 3)])
        self.assertIsNotNone(ring)
        self.assertEqual(len(self.ends_soon(1, ring.wide)), 6)
        row = [half_chance(one, two) for one, two in zip(ring, list(ring)[1:] + [ring[0]])]
        self.assertIsNotNone(exact_ring(row))


if __name__ == "__main__":
    unittest.main()
