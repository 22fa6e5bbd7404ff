"""Points 66, 69, 70, 71, 88 and 89: what follows, free cups, best mixes and further dice."""

import itertools
import unittest

from dicewins.best import best_mix
from dicewins.cups import Cup
from dicewins.dice import faces, is_like, stands_over
from dicewins.errors import BadNumber, BadSet
from dicewins.fewest import fewest_ranks, thrown_wide
from dicewins.follows import beaten_among, follows_beaten, is_free, mix_over, mix_under, standing_pair
from dicewins.further import between, further, leads_free
from dicewins.making import cup_for
from dicewins.paths import leads_over
from dicewins.single import only_mix
from dicewins.tables import table_of
from dicewins.throws import beats
from dicewins.weighing import Mix
from helping import (
    NO_INTS, DiceTest, chooser_of, digits_of, is_short, odd_table, some_dice, some_die, some_table, some_word, steps_from,
)
from test_cups import check_cup
from test_further import check_set
from test_linear import rank_told
from test_paths import CUP, some_cup
from test_weighing import check_short_mix

GREAT = 10 ** 60


class FollowsTest(DiceTest):
    def check(self, cup, numbers, die):
        """What follows of a set and a die, each answer shown by a mix or by a further die."""
        over, under = mix_over(cup, numbers, die), mix_under(cup, die, numbers)
        for mix in (over, under):
            if mix is not None:
                check_short_mix(self, mix, len(cup))
                self.assertEqual(set(mix.taken_dice()) - set(numbers), set())
                self.assertLessEqual(digits_of(mix.entries), 800)
        self.assertIs(follows_beaten(cup, numbers, die), over is not None)
        self.assertIs(beaten_among(cup, die, numbers), under is not None)
        if die in numbers:
            alone = tuple(int(number == die) for number in range(len(cup)))
            self.same([over.entries, under.entries], [alone, alone])
            return True, True
        if over is not None:
            self.assertTrue(stands_over(over.thrown_in(cup), cup[die]))
        else:
            leads = leads_over(cup, further(cup, beating=numbers, losing=[die]).die)
            self.assertTrue(all(leads[number] > 0 for number in numbers) and leads[die] < 0)
        if under is not None:
            self.assertTrue(stands_over(cup[die], under.thrown_in(cup)))
        else:
            leads = leads_over(cup, further(cup, beating=[die], losing=numbers).die)
            self.assertTrue(all(leads[number] < 0 for number in numbers) and leads[die] > 0)
        return over is not None, under is not None

    def test_small_cups(self):
        chooser = chooser_of(351)
        seen = []
        for _ in range(1000):
            cup = some_cup(chooser)
            numbers = chooser.sample(range(len(cup)), chooser.randint(1, len(cup)))
            seen.append(self.check(cup, numbers, chooser.randrange(len(cup))))
        self.assertEqual(len(set(seen)), 4)
        self.assertGreater(min(seen.count(each) for each in set(seen)), 20)

    def test_by_further_dice(self):
        chooser = chooser_of(352)
        for _ in range(300):
            cup = some_cup(chooser)
            numbers = chooser.sample(range(len(cup)), chooser.randint(1, len(cup)))
            die = chooser.randrange(len(cup))
            leads = leads_over(cup, some_die(chooser, 2 * cup.ranks + 1, 2))
            if follows_beaten(cup, numbers, die) and all(leads[number] > 0 for number in numbers):
                self.assertGreater(leads[die], 0)
            if beaten_among(cup, die, numbers) and leads[die] > 0:
                self.assertTrue(any(leads[number] > 0 for number in numbers))

    def test_known_ones(self):
        self.same(mix_over(CUP, [2, 1], 0).entries in ((0, 1, 0), (0, 0, 1)), True)
        self.assertIsNone(mix_over(CUP, [0, 1], 2))
        self.same(mix_over(CUP, (1,), 1).entries, (0, 1, 0))
        self.assertEqual(self.check(Cup([(1, 1), (2, 2)]), [0], 1), (True, True))
        self.assertEqual(self.check(Cup([(3,)]), [0], 0), (True, True))
        # only both dice together stand over the last one
        three = Cup([(1, 0, 1), (0, 2, 0), (1, 2, 1)])
        self.assertEqual(self.check(three, [0, 1], 2), (True, True))
        self.assertEqual(self.check(three, [0], 2), (False, False))

    def test_great_cups(self):
        chooser = chooser_of(353)
        for _ in range(10):
            cup = Cup(some_dice(chooser, 6, 12, GREAT))
            self.ends_soon(3, self.check, cup, [0, 1, 2, 3, 4], 5)
            lower = Cup([tuple(sorted(die, reverse=True)) for die in list(cup)[:1]] + list(cup)[1:])
            self.ends_soon(3, self.check, lower, [1, 2, 3, 4, 5], 0)

    def test_what_was_returned(self):
        chooser = chooser_of(354)
        for cup in (
            cup_for(some_table(chooser, 6, 300)),
            thrown_wide(some_table(chooser, 6, 10 ** 6), [10 ** 12, 1, 2, 3, 4, 5]).cup,
        ):
            self.ends_soon(5, self.check, cup, [0, 1, 2, 3, 4], 5)
            self.ends_soon(5, is_free, cup)
            self.ends_soon(5, standing_pair, cup)

    def test_errors(self):
        for call in (follows_beaten, mix_over):
            check_cup(self, lambda value: call(value, None, None))
            check_set(self, lambda value: call(CUP, value, None))
            for value in ((), []):
                self.fails(BadSet, {"place": -1}, call, CUP, value, None)
            for value in NO_INTS + (-1, 3):
                self.fails(BadNumber, {"name": "die"}, call, CUP, [1], value)
        for call in (beaten_among, mix_under):
            check_cup(self, lambda value: call(value, None, None))
            for value in NO_INTS + (-1, 3):
                self.fails(BadNumber, {"name": "die"}, call, CUP, value, None)
            check_set(self, lambda value: call(CUP, 0, value))
            for value in ((), []):
                self.fails(BadSet, {"place": -1}, call, CUP, 0, value)


class FreeTest(DiceTest):
    def check(self, cup):
        """A free cup has a further die for each set; another cup has a standing pair."""
        pair = standing_pair(cup)
        self.assertIs(is_free(cup), pair is None)
        many = len(cup)
        if pair is not None:
            self.assertIs(type(pair), tuple)
            first, second = pair
            for mix in pair:
                self.assertIs(type(mix), Mix)
                self.assertEqual(len(mix), many)
            self.assertFalse(set(first.taken_dice()) & set(second.taken_dice()))
            upper, lower = first.thrown_in(cup), second.thrown_in(cup)
            self.assertEqual(faces(upper), faces(lower))
            self.assertTrue(stands_over(upper, lower))
            self.assertTrue(is_short(first.entries + second.entries))
            self.assertLessEqual(digits_of(first.entries, second.entries), 800)
            return False
        for chosen in itertools.product((True, False), repeat=many):
            beating = [number for number in range(many) if chosen[number]]
            losing = [number for number in range(many) if not chosen[number]]
            self.assertTrue(further(cup, beating=beating, losing=losing).shows(cup, [beating, losing, []]))
            self.assertEqual(further(cup, beating=beating, losing=losing).WORD, "found")
        if many > 1:
            self.assertGreaterEqual(cup.ranks, many + 1)
        return True

    def test_small_cups(self):
        chooser = chooser_of(361)
        seen = []
        for _ in range(600):
            cup = Cup(some_dice(chooser, chooser.randint(1, 4), chooser.randint(1, 6), 3))
            seen.append((len(cup) > 1, self.check(cup)))
        self.assertGreater(min(seen.count((True, told)) for told in (True, False)), 40)
        self.assertEqual(seen.count((False, False)), 0)

    def test_free_cups_take_each_row_of_leads(self):
        chooser = chooser_of(362)
        for _ in range(100):
            cup = Cup(some_dice(chooser, chooser.randint(1, 3), 5, 3))
            rows = [[chooser.randint(-3, 3) for _ in cup] for _ in range(5)]
            found = [leads_free(cup, row).WORD for row in rows]
            if is_free(cup):
                self.assertEqual(found, ["found"] * 5)
            else:
                first, second = standing_pair(cup)
                self.assertEqual(leads_free(cup, (first - second).entries).WORD, "barred")

    def test_known_ones(self):
        self.assertTrue(self.check(Cup([(5,)])))
        self.assertTrue(self.check(Cup([(1, 0, 1), (0, 2, 0)])))
        for dice in ([(1, 2), (2, 4)], [(2, 1), (1, 2)], [(1,), (1,)], [(1, 0, 0), (0, 1, 0), (0, 0, 1)]):
            self.assertFalse(self.check(Cup(dice)))
        # no die stands over another one, but half of two dice together does over the third
        self.assertFalse(self.check(Cup([(2, 0, 2, 0), (0, 2, 0, 2), (2, 1, 0, 1)])))
        self.assertFalse(self.check(Cup([(1, 0, 1), (0, 2, 0), (1, 2, 1)])))

    def test_equal_mean_ranks(self):
        chooser = chooser_of(363)
        seen = 0
        for _ in range(2000):
            dice = [die + die[::-1] for die in some_dice(chooser, chooser.randint(2, 3), 3, 2)]
            if rank_told(dice) == len(dice):
                self.assertTrue(self.check(Cup(dice)))
                seen += 1
                if seen == 60:
                    break
        self.assertEqual(seen, 60)

    def test_no_die_over_another_with_equal_mean_ranks(self):
        chooser = chooser_of(364)
        seen = 0
        for _ in range(3000):
            dice = some_dice(chooser, 2, 5, 3)
            means = [sum(rank * entry for rank, entry in enumerate(die)) * sum(other)
                     for die, other in (dice, dice[::-1])]
            if means[0] == means[1] and not is_like(*dice):
                self.assertFalse(stands_over(*dice) or stands_over(*dice[::-1]))
                for upper, lower in ((0, 1), (1, 0)):
                    leads = leads_over(dice, between(dice, upper, lower))
                    self.assertTrue(leads[upper] < 0 < leads[lower])
                seen += 1
        self.assertGreater(seen, 50)

    def test_great_cups(self):
        chooser = chooser_of(365)
        for _ in range(6):
            dice = some_dice(chooser, 6, 6, GREAT)
            self.ends_soon(3, self.check, Cup(dice))
            self.ends_soon(3, self.check, Cup([die + die[::-1] for die in dice]))

    def test_errors(self):
        check_cup(self, is_free)
        check_cup(self, standing_pair)


class BestMixTest(DiceTest):
    def check_single(self, cup, taken, weights):
        """What is told of the dice of the one best mix; how many pairs of them there are."""
        self.assertTrue(is_free(cup.taken(taken)))
        inner = Mix([weight if number in taken else 0 for number, weight in enumerate(weights)])
        for i in range(len(cup)):
            if i not in taken:
                self.assertFalse(stands_over(cup[i], inner.thrown_in(cup)))
        for i, j in itertools.permutations(taken, 2):
            self.assertFalse(stands_over(cup[i], cup[j]))
            leads = leads_over(cup, between(cup, i, j))
            self.assertTrue(leads[i] < 0 < leads[j])
        return len(taken) - 1

    def test_best_mixes_and_further_dice(self):
        chooser = chooser_of(371)
        singles = pairs = 0
        for trial in range(400):
            cup = Cup(some_dice(chooser, chooser.randint(1, 5), chooser.randint(2, 6), 2))
            if trial % 2:
                cup = cup_for(odd_table(chooser, chooser.randint(3, 5), 3))
            table = table_of(cup)
            weights = [chooser.randint(1, 3) for _ in cup]
            best = best_mix(table).thrown_in(cup)
            other = Mix([weight * chooser.randint(0, 1) for weight in weights[1:]] + weights[:1]).thrown_in(cup)
            if not is_like(best, other):
                self.assertFalse(stands_over(other, best))
                leads = leads_over([best, other], between([best, other], 0, 1))
                self.assertTrue(leads[0] < 0 < leads[1])
            only = only_mix(table)
            if only is not None:
                pairs += self.check_single(cup, only.taken_dice(), weights)
                singles += 1
        self.assertGreater(min(singles, pairs), 100)

    def test_thirds(self):
        chooser = chooser_of(372)
        seen = 0
        while seen < 60:
            cup = Cup(some_dice(chooser, 2, 5, 3))
            if beats(cup[0], cup[1]) and not stands_over(cup[0], cup[1]):
                ring = cup.wide().with_die(between(cup, 1, 0))
                u, v, w = (table_of(ring)[i][j] for i, j in ((0, 1), (1, 2), (2, 0)))
                self.assertTrue(min(u, v, w) > 0)
                self.assertEqual(only_mix(table_of(ring)), Mix((v, w, u)).short())
                self.assertEqual(fewest_ranks(table_of(ring)), 4)
                seen += 1

    def test_rings_in_best_mixes(self):
        chooser = chooser_of(373)
        rings = 0
        for _ in range(1500):
            many = chooser.randint(3, 6)
            cup = Cup(some_dice(chooser, many, chooser.choice((2, 3, 4)), 2))
            if chooser.random() < 0.8:
                cup = Cup.of_word(some_word(chooser, many, 3 * many), many)
            table = table_of(cup)
            taken = best_mix(table).taken_dice()
            for i, j in itertools.permutations(taken, 2):
                if table[i][j] > 0:
                    reached = steps_from(j, lambda here: [there for there in taken if table[here][there] > 0])
                    self.assertIn(i, reached)
                    self.assertGreaterEqual(cup.ranks, 4)
                    rings += 1
        self.assertGreater(rings, 20)

    def test_one_die_more(self):
        chooser = chooser_of(374)
        for _ in range(300):
            cup = Cup(some_dice(chooser, chooser.randint(1, 4), chooser.randint(2, 5), 2))
            table, more = table_of(cup), table_of(cup.wide().with_die(some_die(chooser, 2 * cup.ranks + 1, 2)))
            step = fewest_ranks(more) - fewest_ranks(table)
            self.assertEqual(step, told_step(table, more))


def told_step(table, more):
    """How many more ranks are needed with one die more, by the words of point 73."""
    if not any(any(row) for row in table):
        last = more[-1][:-1]
        return 0 if not any(last) else 1 if min(last) > 0 or max(last) < 0 else 3
    inside = rank_told(more) == rank_told(table)
    ties = fewest_ranks(table) > rank_told(table)
    ties_more = fewest_ranks(more) > rank_told(more)
    if not ties:
        return 2 if not inside or ties_more else 0
    return 0 if inside or not ties_more else 2


if __name__ == "__main__":
    unittest.main()
