"""Points 76 to 79: chains, their rests, and turns."""

import itertools
import types
import unittest
from fractions import Fraction

from dicewins.chains import closes_at, closing_turn, rest_of, rests, turns
from dicewins.errors import BadNumber
from helping import NO_INTS, NO_ROWS, DiceTest, chooser_of, is_lowest, worth_of

NO_CHANCES = tuple(value for value in NO_INTS if value not in ((1,), [1])) + (
    (1,), [], (1, 2, 3), (1, 0), (1, -2), (3, 2), (-1, 2), 2, -1, (True, 2), (1, 1.0), "12",
)


def told_rests(losses):
    """The rests, by their words, in Fractions."""
    found = [Fraction(1)]
    for loss in losses:
        if found[-1] <= 0:
            break
        found.append(1 - loss / found[-1])
    return found


def told_place(losses):
    """The place where the chain closes, None if it does not."""
    found = told_rests(losses)
    return len(found) - 1 if found[-1] <= 0 else None


def fractions_for(chooser, many, low=0, high=1, most=12):
    """A row of Fractions from low to high."""
    found = []
    while len(found) < many:
        bottom = chooser.randint(1, most)
        value = Fraction(chooser.randint(0, bottom), bottom)
        if low <= value <= high:
            found.append(value)
    return found


def passed(row):
    """The Fractions as they are passed: pairs, at times integers or not in lowest terms."""
    return [
        int(value) if value.denominator == 1 and place % 2 else [3 * value.numerator, 3 * value.denominator]
        for place, value in enumerate(row)
    ]


def check_losses(test, call, name, least):
    """The call raises BadNumber for what is no row of so many told chances."""
    for value in NO_ROWS:
        test.fails(BadNumber, {"name": name}, call, value)
    for many in range(least):
        test.fails(BadNumber, {"name": name}, call, [0] * many)
    for value in NO_CHANCES:
        test.fails(BadNumber, {"name": name}, call, [0, (1, 2), value])
        test.fails(BadNumber, {"name": name}, call, (1, 1, value))


class RestTest(DiceTest):
    def check(self, losses):
        """Rests and place of one row of losses; the place."""
        told = told_rests(losses)
        found = rests(passed(losses))
        self.assertIs(type(found), tuple)
        self.assertTrue(all(is_lowest(rest) for rest in found))
        self.assertEqual([worth_of(rest) for rest in found], told)
        place = told_place(losses)
        self.same(closes_at(tuple(passed(losses))), place)
        last = told[-1]
        self.same(rest_of(passed(losses)), None if place is not None else (last.numerator, last.denominator))
        self.assertTrue(all(rest <= 1 for rest in told))
        return place

    def test_rows(self):
        chooser = chooser_of(401)
        places = set()
        for _ in range(1500):
            high = chooser.choice((Fraction(1, 4), Fraction(2, 5), 1))
            places.add(self.check(fractions_for(chooser, chooser.randint(0, 9), 0, high)))
        self.assertTrue({None, 1, 2, 3, 4, 5} <= places)

    def test_known_ones(self):
        self.same([rests(()), closes_at([]), rest_of(())], [((1, 1),), None, (1, 1)])
        self.same([rests([1]), closes_at([1]), rest_of([1])], [((1, 1), (0, 1)), 1, None])
        self.same([rests([0]), closes_at([0]), rest_of([0])], [((1, 1), (1, 1)), None, (1, 1)])
        self.same(rests([(1, 2), (1, 2), 0]), ((1, 1), (1, 2), (0, 1)))
        # below 0, and no rests behind that
        self.same(rests([(1, 2), 1, 1]), ((1, 1), (1, 2), (-1, 1)))
        self.same([closes_at([0, 0, 1]), closes_at([0, 0, 1, 0])], [3, 3])
        self.same(closes_at([(1, 4), (1, 3), (1, 3), (2, 5)]), 4)

    def test_just_zero(self):
        # at (1/4, 3/4) the second rest is just 0, a little less of the last loss leaves it open
        for losses in ([(1, 4), (3, 4)], [(1, 3), (1, 3), (1, 2)], [0, (1, 2), (1, 2)]):
            self.same(closes_at(losses), len(losses))
            self.same(rests(losses)[-1], (0, 1))
            top, bottom = losses[-1]
            near = losses[:-1] + [(top * 10 ** 6 - 1, bottom * 10 ** 6)]
            self.assertIsNone(closes_at(near))
            self.assertGreater(rest_of(near)[0], 0)

    def test_raised_losses(self):
        chooser = chooser_of(402)
        for _ in range(400):
            losses = fractions_for(chooser, chooser.randint(1, 6), 0, chooser.choice((Fraction(1, 3), 1)))
            raised = [loss + (1 - loss) * chooser.choice((0, Fraction(1, 9), Fraction(1, 2))) for loss in losses]
            old, new = rests(passed(losses)), rests(passed(raised))
            self.assertTrue(all(worth_of(b) <= worth_of(a) for a, b in zip(old, new)))
            if closes_at(passed(losses)) is not None:
                self.assertLessEqual(closes_at(passed(raised)), closes_at(passed(losses)))

    def test_more_losses(self):
        chooser = chooser_of(403)
        for _ in range(400):
            losses = fractions_for(chooser, chooser.randint(1, 5))
            if closes_at(passed(losses)) is not None:
                more = fractions_for(chooser, chooser.randint(1, 4))
                self.assertIsNotNone(closes_at(passed(more + losses)))
                self.assertEqual(closes_at(passed(losses + more)), closes_at(passed(losses)))
        self.same([closes_at([(1, 2), (1, 2)]), closes_at([(1, 2), 0, (1, 2)])], [2, None])

    def test_bounds(self):
        chooser = chooser_of(404)
        for _ in range(300):
            small = fractions_for(chooser, 9, 0, Fraction(1, 4))
            self.assertTrue(all(2 * top >= bottom for top, bottom in rests(passed(small))))
            losses = fractions_for(chooser, 6)
            for place, loss in enumerate(losses, 1):
                if loss == 1:
                    self.assertLessEqual(closes_at(passed(losses)), place)
                if place < 6 and loss + losses[place] >= 1:
                    self.assertLessEqual(closes_at(passed(losses)), place + 1)
        self.assertIsNone(closes_at([(1, 4)] * 16))

    def test_backwards(self):
        self.same([closes_at([(1, 2), (1, 2), 0]), closes_at([0, (1, 2), (1, 2)])], [2, 3])
        chooser = chooser_of(405)
        joined = []
        for _ in range(600):
            high = chooser.choice((Fraction(1, 3), Fraction(2, 3), 1))
            losses = fractions_for(chooser, chooser.randint(1, 7), 0, high)
            closed = closes_at(passed(losses)) is not None
            self.assertEqual(closes_at(passed(losses[::-1])) is not None, closed)
            for place, loss in enumerate(losses):
                left, right = rest_of(passed(losses[:place])), rest_of(passed(losses[:place:-1]))
                if left is not None and right is not None:
                    self.assertEqual(closed, loss >= worth_of(left) * worth_of(right))
                    joined.append(closed)
        self.assertGreater(min(joined.count(True), joined.count(False)), 100)

    def test_great_rows(self):
        chooser = chooser_of(406)
        for _ in range(20):
            losses = [Fraction(chooser.randint(0, 26 * 10 ** 4), 10 ** 6 - chooser.randint(0, 99)) for _ in range(16)]
            self.ends_soon(1, rests, passed(losses))
            self.check(losses)
            # what was returned is passed on as the last one
            last = rest_of(passed(losses))
            if last is not None:
                self.check(losses + [worth_of(last)])
            self.ends_soon(1, closing_turn, passed([1 - loss for loss in losses]))

    def test_errors(self):
        for call in (rests, closes_at, rest_of):
            check_losses(self, call, "losses", 0)


class TurnTest(DiceTest):
    def test_turns(self):
        chooser = chooser_of(407)
        for _ in range(200):
            chances = fractions_for(chooser, chooser.randint(2, 7))
            losses = [1 - chance for chance in chances]
            found = list(turns(passed(chances)))
            told = [losses[start:] + losses[:start] for start in range(len(losses))]
            self.same(found, [tuple((loss.numerator, loss.denominator) for loss in row) for row in told])
            places = [(start, told_place(row)) for start, row in enumerate(told) if told_place(row) is not None]
            self.same(closing_turn(passed(chances)), places[0] if places else None)

    def test_one_after_another(self):
        found = turns([1, (1, 2)])
        self.assertIsInstance(found, types.GeneratorType)
        self.same([next(found), next(found), next(found, None)], [((0, 1), (1, 2)), ((1, 2), (0, 1)), None])

    def test_known_ones(self):
        self.same(closing_turn([1, (1, 2), (1, 2)]), (0, 3))
        self.same(closing_turn([0, 0]), (0, 1))
        self.same(closing_turn([1, 0]), (0, 2))
        self.same(closing_turn([1, 1, 0, 1]), (0, 3))
        self.assertIsNone(closing_turn([1, 1]))
        self.assertIsNone(closing_turn([(3, 4)] * 16))
        self.same(closing_turn([1, (1, 2), 1, (1, 2)]), None)
        self.same(closing_turn([(1, 2), 1, (1, 2)]), (1, 3))
        # the last turn alone closes
        self.same(closing_turn([(3, 7), (5, 7), (5, 7)]), (2, 3))
        self.same(closing_turn([(3, 5), (3, 5), (4, 5), (4, 5)]), (3, 4))

    def test_two_chances(self):
        for one, two in itertools.product([Fraction(k, 6) for k in range(7)], repeat=2):
            self.assertEqual(closing_turn(passed([one, two])) is not None, one + two <= 1)

    def test_errors(self):
        check_losses(self, closing_turn, "chances", 2)
        check_losses(self, lambda value: next(turns(value)), "chances", 2)
        # nothing is looked at before the first turn is asked for
        self.assertIsInstance(turns(None), types.GeneratorType)


if __name__ == "__main__":
    unittest.main()
