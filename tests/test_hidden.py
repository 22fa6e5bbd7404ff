"""Point 134: the hidden die."""

import itertools
import unittest
from fractions import Fraction

from dicewins.cups import Cup
from dicewins.dice import one_faced
from dicewins.errors import BadNumber, OtherSize
from dicewins.hidden import Hidden
from dicewins.ranges import Span, lead_range
from dicewins.telling import tell_all
from dicewins.throws import lead
from helping import NO_INTS, DiceTest, check_die, check_number, chooser_of, some_dice, some_die, worth_of


def told_of(ranks, number, tellings):
    """A hidden die that has been told all this."""
    found = Hidden(ranks, number)
    for test, worth in tellings:
        found.tell(test, worth)
    return found


class HiddenTest(DiceTest):
    def check(self, hidden, tellings):
        """All answers, against those of lead_range for the tests told so far."""
        self.same(hidden.asked, len(tellings))
        spans = []
        for rank in range(hidden.ranks):
            die = one_faced(hidden.ranks, rank, 1)
            span = hidden.lead_on(list(die))
            self.assertIs(type(span), Span)
            self.assertTrue(len(span.low_weights[0]) == len(span.high_weights[0]) == len(tellings))
            if tellings:
                told = lead_range([test for test, _ in tellings], [(worth, hidden.number) for _, worth in tellings], die)
                self.same([span.low, span.high], [told.low, told.high])
            spans.append(span)
        settled = all(span.low == span.high for span in spans)
        self.assertIs(hidden.settled(), settled)
        found = hidden.found_die()
        if not settled:
            self.assertIsNone(found)
            return None
        shares = [Fraction(entry, sum(spans[0].low_die)) for entry in spans[0].low_die]
        parts = [share * hidden.number for share in shares]
        whole = all(part.denominator == 1 for part in parts)
        self.same(found, tuple(int(part) for part in parts) if whole else None)
        return found

    def test_new(self):
        hidden = Hidden(3, 7)
        self.same([hidden.ranks, hidden.number, hidden.asked], [3, 7, 0])
        span = hidden.lead_on((1, 0, 0))
        self.same([span.low, span.high, span.low_weights[0], span.high_weights[0]], [(0, 1), (1, 1), (), ()])
        self.same([hidden.settled(), hidden.found_die()], [False, None])
        one = Hidden(1, 10 ** 28)
        self.same([one.settled(), one.found_die(), one.asked], [True, (10 ** 28,), 0])

    def test_telling(self):
        chooser = chooser_of(621)
        found = []
        for _ in range(120):
            ranks = chooser.randint(1, 5)
            secret = some_die(chooser, ranks, 3)
            hidden = Hidden(ranks, sum(secret))
            tellings = []
            for _ in range(chooser.randint(1, 5)):
                test = some_die(chooser, ranks, 3)
                self.assertIsNone(hidden.tell(list(test), lead(secret, test)))
                tellings.append((test, lead(secret, test)))
                die = self.check(hidden, tellings)
                self.assertTrue(die is None or die == secret)
                for other in (some_die(chooser, ranks, 3), test):
                    span = hidden.lead_on(other)
                    value = Fraction(lead(secret, other), sum(secret))
                    self.assertTrue(worth_of(span.low) <= value <= worth_of(span.high))
                if tell_all([row for row, _ in tellings]):
                    self.assertTrue(hidden.settled())
            found.append(die)
        self.assertTrue(None in found and len(found) - found.count(None) > 30)

    def test_refused(self):
        chooser = chooser_of(622)
        refused = 0
        for _ in range(150):
            ranks, number = chooser.randint(1, 4), chooser.randint(1, 4)
            hidden, tellings = Hidden(ranks, number), []
            for _ in range(4):
                test, worth = some_die(chooser, ranks, 3), chooser.randint(-6, 6)
                rows = tellings + [(test, worth)]
                told = lead_range([row for row, _ in rows], [(entry, number) for _, entry in rows], test)
                if told is None:
                    refused += 1
                    self.fails(BadNumber, {"name": "lead"}, hidden.tell, test, worth)
                else:
                    hidden.tell(test, worth)
                    tellings = rows
            self.check(hidden, tellings)
        self.assertGreater(refused, 50)

    def test_any_order_and_twice(self):
        chooser = chooser_of(623)
        for _ in range(30):
            secret = some_die(chooser, 4, 3)
            tellings = [(test, lead(secret, test)) for test in some_dice(chooser, 3, 4, 3)]
            die = some_die(chooser, 4, 3)
            answers = set()
            for rows in itertools.permutations(tellings):
                hidden = told_of(4, sum(secret), rows)
                span = hidden.lead_on(die)
                answers.add((span.low, span.high, hidden.settled(), hidden.found_die()))
                # a test told again counts once more and changes nothing else
                hidden.tell(*rows[0])
                self.same(hidden.asked, 4)
                again = hidden.lead_on(die)
                self.same(len(again.low_weights[0]), 4)
                answers.add((again.low, again.high, hidden.settled(), hidden.found_die()))
            self.assertEqual(len(answers), 1)

    def test_known_ones(self):
        # the only die with one face that has this lead, but not the only row of shares
        hidden = told_of(3, 1, [((0, 1, 0), 0)])
        self.same([hidden.settled(), hidden.found_die(), hidden.asked], [False, None, 1])
        hidden = told_of(3, 2, [([1, 0, 0], 1), ([0, 0, 1], -1)])
        self.same([hidden.settled(), hidden.found_die(), hidden.asked], [True, (1, 0, 1), 2])
        # settled, but on shares that no die with one face has
        hidden = told_of(3, 1, [([1, 0, 1], 0), ([0, 1, 0], 0), ([1, 0, 0], 1)])
        self.same([hidden.settled(), hidden.found_die()], [True, (0, 1, 0)])
        hidden = told_of(2, 1, [([2, 1], 0)])
        self.same([hidden.settled(), hidden.found_die()], [True, None])
        # settled by one telling at the very edge
        hidden = told_of(3, 5, [([1, 0, 0], 0)])
        self.same([hidden.settled(), hidden.found_die()], [True, (5, 0, 0)])

    def test_own_lists(self):
        test = [1, 0, 0]
        hidden = told_of(3, 2, [(test, 1)])
        test[0] = 0
        test[2] = 1
        span = hidden.lead_on((1, 0, 0))
        self.same([span.low, span.high], [(1, 2), (1, 2)])

    def test_greatest(self):
        chooser = chooser_of(624)
        for most in (10 ** 28, 10 ** 60):
            secret = some_die(chooser, 10, most)
            tests = Cup(some_dice(chooser, 8, 10, most))
            hidden = Hidden(10, sum(secret))
            for test in tests:
                self.ends_soon(1, hidden.tell, test, lead(secret, test))
            self.same(self.ends_soon(5, hidden.settled), False)
            self.ends_soon(2, hidden.lead_on, some_die(chooser, 10, most))
            small = Hidden(9, sum(secret[1:]))
            for test in some_dice(chooser, 8, 9, most):
                small.tell(test, lead(secret[1:], test))
            self.same(self.ends_soon(5, small.settled), True)
            self.same(self.ends_soon(5, small.found_die), secret[1:])

    def test_errors(self):
        check_number(self, "ranks", (0, -1), lambda value: Hidden(value, None))
        check_number(self, "number", (0, -1), lambda value: Hidden(3, value))
        hidden = told_of(3, 2, [((1, 0, 0), 1)])
        check_die(self, lambda value: hidden.tell(value, None))
        for value in NO_INTS + ((1, 2),):
            self.fails(BadNumber, {"name": "lead"}, hidden.tell, (1, 0), value)
        self.fails(OtherSize, {"first": 3, "second": 2}, hidden.tell, (1, 0), 99)
        self.fails(BadNumber, {"name": "lead"}, hidden.tell, (1, 0, 0), 0)
        self.fails(BadNumber, {"name": "lead"}, hidden.tell, (0, 0, 1), 1)
        check_die(self, hidden.lead_on)
        self.fails(OtherSize, {"first": 3, "second": 4}, hidden.lead_on, (1, 0, 0, 0))
        # a call that raises an error changes nothing
        self.same(hidden.asked, 1)
        span = hidden.lead_on((0, 1, 0))
        self.same([span.low, span.high], [(-1, 2), (0, 1)])


if __name__ == "__main__":
    unittest.main()
