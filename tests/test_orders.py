"""Points 114 to 119: the order of dice that are thrown often."""

import decimal
import itertools
import unittest

from dicewins.closed import closing_place
from dicewins.cups import Cup
from dicewins.dice import below, faces, is_like
from dicewins.doubling import turning_ring
from dicewins.errors import BadDie, OtherSize
from dicewins.many import greatest_die, least_die, many_cup
from dicewins.orders import first_unlike, last_order, last_unlike, settled_count, settled_from
from dicewins.single import only_mix
from dicewins.tables import is_odd, table_of
from dicewins.throws import beats, chance, half_chance, lead
from dicewins.walks import is_barred
from dicewins.webs import Web
from helping import DiceTest, check_die, chooser_of, some_dice, some_die, some_word, worth_of
from test_cups import check_cup


def unlike_told(a, b):
    """The unlike gaps, by their words."""
    return [j for j in range(len(a) + 1) if faces(b) * below(a, j) != faces(a) * below(b, j)]


def numbers_at(a, b, gap):
    """The two numbers that are compared at a gap."""
    return faces(b) * below(a, gap), faces(a) * below(b, gap)


def count_told(a, b):
    """The count from which two dice are settled, by its words."""
    gaps = unlike_told(a, b)
    if not gaps:
        return 1
    low, high = sorted(numbers_at(a, b, gaps[-1]))
    count, small, great = 1, low, high
    while 2 * small >= great:
        count, small, great = count + 1, small * low, great * high
    return count


def order_told(cup):
    """The last order of a cup, by its words."""
    left = list(range(len(cup)))
    found = []
    while left:
        first = left[0]
        for other in left:
            gaps = unlike_told(cup[other], cup[first])
            if gaps:
                mine, others = numbers_at(cup[other], cup[first], gaps[-1])
                first = other if mine < others else first
        found.append(tuple(number for number in left if is_like(cup[number], cup[first])))
        left = [number for number in left if number not in found[-1]]
    return found


def some_pair(chooser):
    """Two dice, at times like ones, or unlike at one gap alone."""
    a, b = some_dice(chooser, 2, chooser.randint(1, 6), chooser.choice((1, 3, 9)))
    kind = chooser.randint(0, 4)
    if kind == 0:
        b = tuple(3 * entry for entry in a)
    elif kind == 1:
        held = [rank for rank in range(len(a) - 1) if a[rank]]
        if held:
            rank = chooser.choice(held)
            b = a[:rank] + (a[rank] - 1, a[rank + 1] + 1) + a[rank + 2:]
    return a, b


class GapTest(DiceTest):
    def test_gaps(self):
        chooser = chooser_of(581)
        kinds = set()
        for _ in range(600):
            a, b = some_pair(chooser)
            gaps = unlike_told(a, b)
            kinds.add(min(len(gaps), 2))
            self.same(last_unlike(list(a), b), gaps[-1] if gaps else None)
            self.same(first_unlike(a, list(b)), gaps[0] if gaps else None)
            self.assertEqual(not gaps, is_like(a, b))
        self.assertEqual(kinds, {0, 1, 2})

    def test_known_ones(self):
        self.same([last_unlike((2, 0, 0, 1), (0, 1, 1, 0)), first_unlike((2, 0, 0, 1), (0, 1, 1, 0))], [3, 1])
        self.same([last_unlike((1,), (5,)), first_unlike((1, 1), (2, 2)), settled_from((1,), (5,))], [None, None, 1])
        # unlike at one gap alone
        self.same([last_unlike((1, 1), (0, 1)), first_unlike((1, 1), (0, 1)), settled_from((1, 1), (0, 1))], [1, 1, 1])
        self.same([last_unlike((1, 1, 1), (1, 0, 2)), first_unlike((1, 1, 1), (1, 0, 2))], [2, 2])

    def test_errors(self):
        for call in (last_unlike, first_unlike, settled_from):
            check_die(self, lambda value: call(value, None))
            check_die(self, lambda value: call((1, 0), value))
            self.fails(OtherSize, {"first": 2, "second": 3}, call, (1, 0), [1, 0, 0])
            self.fails(BadDie, {"place": -1}, call, (1, 0), [0, 0, 0])


class SettledTest(DiceTest):
    def test_counts(self):
        chooser = chooser_of(582)
        for _ in range(500):
            a, b = some_pair(chooser)
            self.same(settled_from(a, b), count_told(a, b))
            self.same(settled_from(b, a), count_told(a, b))

    def test_known_ones(self):
        # 2 * low^k = high^k at no k but 1: there the count is the next one
        self.same([settled_from((1, 1), (2, 0)), settled_from((1, 0, 0), (0, 1, 0)), settled_from((2, 1), (1, 2))], [2, 1, 2])
        self.same(settled_from((99, 1), (100, 0)), 69)

    def test_great_counts(self):
        # up to 5000 pairs of faces: counts of up to 4000
        pairs = [((48, 2), (49, 1)), ((35, 35), (36, 35)), ((49, 50), (25, 25)), ((34, 36), (35, 36)), ((2498, 1), (2499, 0))]
        for a, b in pairs + [((1, top), (0, 1)) for top in (4999, 2500, 1000)]:
            found = self.ends_soon(1, settled_from, a, b)
            self.same(found, count_told(a, b))
            if faces(a) * faces(b) <= 5000:
                self.assertLessEqual(found, 4000)
        self.same(settled_from((35, 35), (36, 35)), count_told((35, 35), (36, 35)))
        # the greatest one: numbers of 4970 one apart
        self.assertGreater(max(settled_from((35, 36), (35, 35)), settled_from((70, 1), (69, 1))), 1700)

    def test_far_beyond(self):
        # nothing is promised for these, but they end soon and are right
        with decimal.localcontext(decimal.Context(prec=400)):
            for low in (10 ** 5, 10 ** 9, 10 ** 19 + 7, 10 ** 40, 3 * 10 ** 120):
                told = decimal.Decimal(2).ln() / (decimal.Decimal(low + 1) / low).ln()
                self.same(self.ends_soon(1, settled_from, (low, 1), (low + 1, 0)), int(told) + 1)

    def test_settled_dice(self):
        chooser = chooser_of(583)
        for _ in range(200):
            a, b = some_pair(chooser)
            gap, low = last_unlike(a, b), first_unlike(a, b)
            start, turned = settled_from(a, b), settled_from(a[::-1], b[::-1])
            for more in (0, 1, 7):
                if start + more <= 60:
                    found = lead(greatest_die(a, start + more), greatest_die(b, start + more))
                    mine, others = numbers_at(a, b, gap) if gap is not None else (0, 0)
                    self.assertEqual((found > 0) - (found < 0), (mine < others) - (mine > others))
                if turned + more <= 60:
                    found = lead(least_die(a, turned + more), least_die(b, turned + more))
                    mine, others = numbers_at(a, b, low) if low is not None else (0, 0)
                    self.assertEqual((found > 0) - (found < 0), (mine < others) - (mine > others))

    def test_greatest(self):
        chooser = chooser_of(584)
        a = some_die(chooser, 4000, 10 ** 60)
        b = a[:1] + (a[1] + 1, a[2] - 1) + a[3:]
        self.ends_soon(1, settled_from, a, b)
        great = 10 ** 360
        self.ends_soon(1, settled_from, (great, great, 1), (great + 1, great, 0))
        self.same(self.ends_soon(1, settled_from, (great, great), (1001 * great, 1000 * great)), count_told((1, 1), (1001, 1000)))


class OrderTest(DiceTest):
    def test_orders(self):
        chooser = chooser_of(585)
        for _ in range(300):
            dice = some_dice(chooser, chooser.randint(1, 5), chooser.randint(1, 5), chooser.choice((1, 3)))
            if chooser.random() < 0.3:
                dice.append(tuple(2 * entry for entry in dice[0]))
            cup = Cup(dice)
            found = last_order(cup)
            self.same(found, order_told(dice))
            self.assertEqual(last_order(dice), found)
            pairs = list(itertools.combinations(dice, 2))
            start = max([count_told(a, b) for a, b in pairs], default=1)
            self.same(settled_count(cup), start)
            if start <= 40:
                self.check_settled(cup, found, start, chooser)

    def check_settled(self, cup, order, start, chooser):
        """From the count on the leads are as the order tells."""
        place = {number: k for k, group in enumerate(order) for number in group}
        for count in (start, start + 1, start + 10):
            table = table_of(many_cup(cup, count))
            for i, j in itertools.permutations(range(cup.many), 2):
                self.assertEqual(table[i][j] > 0, place[i] < place[j])
                self.assertEqual(table[i][j] == 0, place[i] == place[j])
        more = many_cup(cup, start)
        numbers = [chooser.randrange(cup.many) for _ in range(4)]
        row = [worth_of(chance(more[a], more[b])) for a, b in zip(numbers, numbers[1:] + numbers[:1])]
        self.assertFalse(all(2 * value > 1 for value in row))

    def test_known_ones(self):
        dice = [[2, 0, 0, 1], [0, 1, 1, 0]]
        self.same([last_order(dice), settled_count(dice)], [[(0,), (1,)], 2])
        self.same([last_order([(1,), (2,), (3,)]), settled_count([(1,), (2,), (3,)])], [[(0, 1, 2)], 1])
        self.same([last_order([(5, 1)]), settled_count([(5, 1)])], [[(0,)], 1])
        self.same(last_order([(1, 0), (1, 1), (0, 3), (2, 2), (7, 0)]), [(2,), (1, 3), (0, 4)])
        found = last_order(dice)
        found.clear()
        self.same(last_order(dice), [(0,), (1,)])

    def test_one_throw_may_be_otherwise(self):
        cup = Cup([[2, 0, 0, 1], [0, 1, 1, 0]])
        self.same([table_of(cup)[0][1], table_of(many_cup(cup, 2))[0][1]], [-2, 4])
        # three faces each in a ring for one throw
        ring = Cup.of_word((0, 1, 2, 1, 2, 0, 2, 0, 1), 3)
        start = settled_count(ring)
        self.assertTrue(start > 1)
        self.same(len(last_order(ring)), 3)
        table = table_of(many_cup(ring, start))
        order = [group[0] for group in last_order(ring)]
        self.assertTrue(table[order[0]][order[1]] > 0 and table[order[1]][order[2]] > 0 and table[order[0]][order[2]] > 0)

    def test_odd_tables(self):
        chooser = chooser_of(586)
        checked = below_it = 0
        for _ in range(300):
            word = some_word(chooser, 3, 9)
            cup = Cup.of_word(word, 3)
            if not is_odd(table_of(cup)):
                continue
            start = settled_count(cup)
            for count in {1, 2, start, start + 1}:
                if count > 40:
                    continue
                table = table_of(many_cup(cup, count))
                self.assertTrue(is_odd(table))
                mix = only_mix(table)
                self.assertIsNotNone(mix)
                self.assertTrue(all(weight % 2 for weight in mix.entries if weight) and len(mix.taken_dice()) % 2)
                if count >= start:
                    self.same(mix.taken_dice(), last_order(cup)[0])
                    checked += 1
                else:
                    below_it += 1
        self.assertGreater(min(checked, below_it), 30)

    def test_rings_and_webs(self):
        chooser = chooser_of(587)
        for _ in range(60):
            cup = Cup(some_dice(chooser, chooser.randint(2, 4), chooser.randint(1, 5), 3))
            for count in (1, 2, 5):
                more = many_cup(cup, count)
                numbers = [chooser.randrange(cup.many) for _ in range(chooser.randint(2, 5))]
                self.assertIsNotNone(closing_place(more, numbers))
                self.assertTrue(is_barred(Web.of_cup(more)))

    def test_turning_rings(self):
        for many in (3, 4):
            ring = turning_ring(many)
            settled = settled_count(ring)
            self.assertLessEqual(settled, 1000)
            # the ring is gone then, both ways round
            for count in (settled, settled + 1, 1000):
                after = many_cup(ring, count)
                forth = [worth_of(half_chance(after[number], after[(number + 1) % many])) for number in range(many)]
                self.assertFalse(all(2 * value > 1 for value in forth))
                self.assertFalse(all(2 * value < 1 for value in forth))
                self.assertFalse(all(beats(after[number], after[(number + 1) % many]) for number in range(many)))

    def test_greatest(self):
        chooser = chooser_of(588)
        base = some_die(chooser, 4000, 10 ** 60)
        for cup in (
            Cup(some_dice(chooser, 40, 4000, 10 ** 60)),
            Cup([[(number + 1) * entry for entry in base] for number in range(40)]),
            Cup([(number, 40 - number) + base[2:] for number in range(40)]),
        ):
            self.assertEqual(sorted(sum(self.ends_soon(15, last_order, cup), ())), list(range(40)))
            self.ends_soon(15, settled_count, cup)

    def test_errors(self):
        check_cup(self, last_order)
        check_cup(self, settled_count)


if __name__ == "__main__":
    unittest.main()
