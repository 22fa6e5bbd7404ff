"""Points 129 to 133 and 135: how far a lead over a die can go."""

import unittest
from fractions import Fraction

from dicewins.cups import Cup
from dicewins.dice import die_of, mixed_die, one_faced
from dicewins.errors import BadNumber, OtherSize
from dicewins.following import follow_weights, follows_from, split_pair
from dicewins.most import most_lead
from dicewins.paths import leads_over
from dicewins.ranges import Span, die_between, lead_range, no_shares
from dicewins.telling import tellings, test_rows
from dicewins.throws import lead
from helping import (
    NO_ROWS, DiceTest, check_die, chooser_of, digits_of, is_lowest, some_dice, some_die, worth_of,
)
from test_chains import passed
from test_cups import check_cup
from test_fractions_of import NO_FRACTIONS
from test_paths import CUP


def by_face(die, other):
    """The lead by face of one die over another one."""
    return Fraction(lead(die, other), sum(die))


def leads_of(die, cup):
    """The leads by face of a die over the tests."""
    return [by_face(die, test) for test in cup]


def some_leads(chooser, cup):
    """Leads by face over the tests: those of some die, or near them, or any."""
    kind = chooser.randint(0, 3)
    found = leads_of(some_die(chooser, cup.ranks, 3), cup)
    if kind == 1:
        rank = chooser.randrange(cup.ranks)
        found = leads_of(one_faced(cup.ranks, rank, 1), cup)
    if kind == 2:
        place = chooser.randrange(cup.many)
        found[place] += Fraction(chooser.choice((-1, 1)), chooser.randint(1, 9))
    if kind == 3:
        found = [Fraction(chooser.randint(-9, 9), chooser.randint(1, 4)) for _ in cup]
    return found


class RangeTest(DiceTest):
    def check(self, cup, leads, die):
        """The span, shown by its own dice and weights, or integers that show that there is none."""
        span = lead_range(cup, passed(leads), list(die))
        bar = no_shares(list(cup), passed(leads))
        self.assertEqual(span is None, bar is not None)
        if span is None:
            self.check_bar(cup, leads, bar)
            return None
        self.assertIs(type(span), Span)
        self.assertTrue(is_lowest(span.low) and is_lowest(span.high))
        self.assertLessEqual(worth_of(span.low), worth_of(span.high))
        for value, held in ((span.low, span.low_die), (span.high, span.high_die)):
            self.same(die_of(held), held)
            self.assertEqual(leads_of(held, cup), leads)
            self.assertEqual(by_face(held, die), worth_of(value))
        row = test_rows([die])[0]
        for value, weights, sign in ((span.low, span.low_weights, -1), (span.high, span.high_weights, 1)):
            self.assertTrue(type(weights) is tuple and type(weights[0]) is tuple and len(weights) == 2)
            self.assertEqual(len(weights[0]), cup.many)
            self.assertTrue(all(is_lowest(part) for part in weights[0] + (weights[1],)))
            parts, more = [worth_of(part) for part in weights[0]], worth_of(weights[1])
            for rank, entry in enumerate(row):
                told = sum(part * line[rank] for part, line in zip(parts, test_rows(cup))) + more
                self.assertGreaterEqual(sign * told, sign * entry)
            self.assertEqual(sum(part * lead_told for part, lead_told in zip(parts, leads)) + more, worth_of(value))
        return span

    def check_bar(self, cup, leads, bar):
        """The integers put the leads beyond all ranks."""
        self.assertTrue(type(bar) is tuple and len(bar) == 2 and type(bar[0]) is tuple and type(bar[1]) is int)
        weights, most = bar
        self.assertTrue(len(weights) == cup.many and all(type(weight) is int for weight in weights))
        rows = test_rows(cup)
        for rank in range(cup.ranks):
            self.assertLessEqual(sum(weight * row[rank] for weight, row in zip(weights, rows)), most)
        self.assertGreater(sum(weight * lead_told for weight, lead_told in zip(weights, leads)), most)
        self.assertLessEqual(digits_of(weights, (most,)), 800)

    def test_cups(self):
        chooser = chooser_of(611)
        kinds = []
        for _ in range(600):
            cup = Cup(some_dice(chooser, chooser.randint(1, 4), chooser.randint(1, 6), 3))
            die = some_die(chooser, cup.ranks, 3)
            leads = some_leads(chooser, cup)
            span = self.check(cup, leads, die)
            kinds.append(None if span is None else span.low == span.high)
            self.check_between(cup, leads, die, span, chooser)
        for kind in (None, True, False):
            self.assertGreater(kinds.count(kind), 60)

    def check_between(self, cup, leads, die, span, chooser):
        """die_between gives a die for what is in the span and for nothing else."""
        if span is None:
            self.assertIsNone(die_between(cup, passed(leads), die, chooser.randint(-3, 3)))
            return
        low, high = worth_of(span.low), worth_of(span.high)
        for value in (low, high, low + (high - low) * Fraction(chooser.randint(0, 7), 7)):
            found = die_between(cup, passed(leads), list(die), passed([value])[0])
            self.same(die_of(found), found)
            self.assertEqual(leads_of(found, cup), leads)
            self.assertEqual(by_face(found, die), value)
        tiny = Fraction(1, 10 ** 6)
        for value in (low - tiny, high + tiny, high + 5):
            self.assertIsNone(die_between(cup, passed(leads), die, passed([value])[0]))

    def test_what_follows(self):
        chooser = chooser_of(612)
        seen = []
        for _ in range(200):
            cup = Cup(some_dice(chooser, chooser.randint(1, 3), chooser.randint(1, 5), 3))
            die = some_die(chooser, cup.ranks, 3)
            told = follows_from(cup, die)
            seen.append(told)
            if told:
                span = lead_range(cup, passed(leads_of(some_die(chooser, cup.ranks, 3), cup)), die)
                self.same(span.low, span.high)
            else:
                one, _ = split_pair(cup, die)
                span = lead_range(cup, passed(leads_of(one, cup)), die)
                self.assertLess(worth_of(span.low), worth_of(span.high))
        self.assertGreater(min(seen.count(True), seen.count(False)), 30)

    def test_more_tests(self):
        chooser = chooser_of(613)
        follows = 0
        for _ in range(200):
            cup = Cup(some_dice(chooser, chooser.randint(1, 3), chooser.randint(2, 5), 3))
            hidden = some_die(chooser, cup.ranks, 3)
            more = some_die(chooser, cup.ranks, 3)
            die = some_die(chooser, cup.ranks, 3)
            leads = leads_of(hidden, cup)
            old = lead_range(cup, passed(leads), die)
            new = lead_range(cup.with_die(more), passed(leads + [by_face(hidden, more)]), die)
            self.assertLessEqual(worth_of(old.low), worth_of(new.low))
            self.assertGreaterEqual(worth_of(old.high), worth_of(new.high))
            if follow_weights(cup, more) is not None:
                self.same([new.low, new.high], [old.low, old.high])
                follows += 1
        self.assertGreater(follows, 20)

    def test_mixed_and_turned(self):
        chooser = chooser_of(614)
        for _ in range(150):
            cup = Cup(some_dice(chooser, chooser.randint(1, 3), chooser.randint(2, 5), 3))
            dice = some_dice(chooser, 2, cup.ranks, 3)
            weights = some_die(chooser, 2, 3)
            leads = leads_of(some_die(chooser, cup.ranks, 3), cup)
            parts = [lead_range(cup, passed(leads), die) for die in dice]
            whole = lead_range(cup, passed(leads), mixed_die(weights, *dice))
            high = sum(weight * worth_of(part.high) for weight, part in zip(weights, parts))
            low = sum(weight * worth_of(part.low) for weight, part in zip(weights, parts))
            self.assertLessEqual(worth_of(whole.high), high)
            self.assertGreaterEqual(worth_of(whole.low), low)
            turned = lead_range(~cup, passed([-value for value in leads]), dice[0][::-1])
            self.assertEqual([worth_of(turned.low), worth_of(turned.high)], [-worth_of(parts[0].high), -worth_of(parts[0].low)])

    def test_most_lead(self):
        # point 135 (a): the tests are the other dice of the wide cup
        chooser = chooser_of(615)
        equal = 0
        for _ in range(120):
            cup = Cup(some_dice(chooser, chooser.randint(2, 4), chooser.randint(1, 4), 3))
            number = chooser.randrange(cup.many)
            wide = cup.wide()
            tests = wide.taken([k for k in range(cup.many) if k != number])
            leads = leads_of(some_die(chooser, wide.ranks, 2), tests)
            span = lead_range(tests, passed(leads), wide[number])
            bounds = passed(leads)
            bounds.insert(number, None)
            most = most_lead(cup, number, bounds)
            self.assertLessEqual(worth_of(span.high), worth_of(most.value))
            got = [Fraction(worth, sum(most.die)) for worth in leads_over(cup, most.die)]
            if got[:number] + got[number + 1:] == leads:
                self.same(span.high, most.value)
                equal += 1
        self.assertGreater(equal, 10)

    def test_beating_a_mix(self):
        # point 135 (b)
        chooser = chooser_of(616)
        for _ in range(100):
            cup = Cup(some_dice(chooser, 3, 4, 3))
            weights = some_die(chooser, 3, 3)
            die = some_die(chooser, 4, 3)
            if lead(die, mixed_die(weights, *cup)) > 0:
                self.assertTrue(any(worth > 0 for worth, weight in zip(tellings(cup, die), weights) if weight))

    def test_known_ones(self):
        span = lead_range([[1, 0, 1]], [0], [1, 0, 0])
        self.same([span.low, span.high], [(1, 2), (1, 1)])
        # only one row of shares has the lead, or none just beyond
        span = self.check(Cup([(1, 0, 0)]), [Fraction(0)], (0, 0, 1))
        self.same([span.low, span.high], [(-1, 1), (-1, 1)])
        self.assertIsNone(self.check(Cup([(1, 0, 0)]), [Fraction(-1, 10 ** 9)], (0, 0, 1)))
        self.same([lead_range([(1, 0)], [2], (1, 0)), no_shares([(1, 0)], [1])], [None, None])
        span = self.check(Cup([(4,)]), [Fraction(0)], (3,))
        self.same([span.low, span.high, no_shares([(4,)], [0])], [(0, 1), (0, 1), None])
        self.assertIsNotNone(no_shares([(4,)], [(1, 7)]))

    def test_span_keeps_its_arguments(self):
        span = Span(1, "b", [2], None, (3,), {})
        found = [span.low, span.high, span.low_die, span.high_die, span.low_weights, span.high_weights]
        self.same(found, [1, "b", [2], None, (3,), {}])

    def test_greatest(self):
        chooser = chooser_of(617)
        for most in (10 ** 28, 10 ** 60):
            for many in (4, 7, 8):
                cup = Cup(some_dice(chooser, many, 10, most))
                hidden, die = some_die(chooser, 10, most), some_die(chooser, 10, most)
                leads = leads_of(hidden, cup)
                self.ends_soon(3, lead_range, cup, passed(leads), die)
                span = self.check(cup, leads, die)
                weights = span.low_weights[0] + span.high_weights[0] + (span.low_weights[1], span.high_weights[1])
                self.assertLessEqual(digits_of(span.low_die, span.high_die, *weights), 800)
                value = (worth_of(span.low) + worth_of(span.high)) / 2
                found = self.ends_soon(3, die_between, cup, passed(leads), die, passed([value])[0])
                self.assertEqual(by_face(found, die), value)
                # leads of different dice, which no one die has
                others = [by_face(some_die(chooser, 10, most), test) for test in cup]
                self.ends_soon(3, no_shares, cup, passed(others))
                self.check(cup, others, die)

    def test_errors(self):
        for call in (lead_range, lambda *told: die_between(*told, None)):
            check_cup(self, lambda value: call(value, None, None))
            for value in NO_ROWS:
                self.fails(BadNumber, {"name": "leads"}, call, CUP, value, None)
            for value in NO_FRACTIONS:
                self.fails(BadNumber, {"name": "leads"}, call, CUP, [0, value], None)
            check_die(self, lambda value: call(CUP, [], value))
        for value in NO_FRACTIONS:
            self.fails(BadNumber, {"name": "value"}, die_between, CUP, [], (1, 0, 0), value)
        for call in (lead_range, lambda *told: die_between(*told, 0)):
            for leads in ([], [0, 0], [0, 0, 0, 0]):
                self.fails(OtherSize, {"first": 3, "second": len(leads)}, call, CUP, leads, (1, 0, 0))
            self.fails(OtherSize, {"first": 2, "second": 3}, call, CUP, [0, 0, (1, 2)], (1, 0, 0))

    def test_no_shares_errors(self):
        check_cup(self, lambda value: no_shares(value, None))
        for value in NO_ROWS:
            self.fails(BadNumber, {"name": "leads"}, no_shares, CUP, value)
        for value in NO_FRACTIONS:
            self.fails(BadNumber, {"name": "leads"}, no_shares, CUP, [0, value])
        self.fails(OtherSize, {"first": 3, "second": 1}, no_shares, CUP, [0])


if __name__ == "__main__":
    unittest.main()
