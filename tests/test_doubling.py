"""Points 111 to 113: levels, stretches, and cups with two told tables."""

import itertools
import unittest

from dicewins.closed import closing_place
from dicewins.cups import Cup
from dicewins.doubling import cup_of_levels, double_cup, stretch_of, turning_ring
from dicewins.errors import BadNumber, BadTable, OtherSize, TooMany
from dicewins.many import many_cup
from dicewins.tables import table_of
from dicewins.throws import beats
from helping import NO_INTS, NO_ROWS, DiceTest, all_tables, check_number, chooser_of, some_dice, table_of_pairs
from test_tables import check_tables

ZERO = ((0, 0, 0), (0, 0, 0), (0, 0, 0))


def some_groups(chooser, many):
    """Groups of dice, each die in one of them."""
    numbers = list(range(many))
    chooser.shuffle(numbers)
    groups = []
    while numbers:
        size = chooser.randint(1, len(numbers))
        groups.append(numbers[:size])
        numbers = numbers[size:]
    return groups


def added_by_levels(many, levels):
    """The leads for one throw and for two that levels add, by their words."""
    one = [[0] * many for _ in range(many)]
    two = [[0] * many for _ in range(many)]
    count = 0
    for thickness, groups in levels:
        place = {number: k for k, group in enumerate(groups) for number in group}
        for a, b in itertools.permutations(range(many), 2):
            sign = (place[a] > place[b]) - (place[a] < place[b])
            one[a][b] += sign * thickness ** 2
            two[a][b] += sign * thickness ** 2 * (2 * count + thickness) ** 2
        count += thickness
    return tuple(map(tuple, one)), tuple(map(tuple, two))


def sums_of(stretch, start):
    """What a stretch adds for one throw and for two."""
    one = two = 0
    for thickness, sign in stretch:
        one += sign * thickness ** 2
        two += sign * thickness ** 2 * (2 * start + thickness) ** 2
        start += thickness
    return one, two


class LevelTest(DiceTest):
    def test_levels(self):
        chooser = chooser_of(571)
        for _ in range(200):
            many = chooser.randint(1, 4)
            levels = [(chooser.randint(1, 4), some_groups(chooser, many)) for _ in range(chooser.randint(1, 6))]
            cup = cup_of_levels(many, levels)
            self.assertIs(type(cup), Cup)
            self.assertEqual(cup.ranks, sum(len(groups) for _, groups in levels))
            rank = 0
            for thickness, groups in levels:
                for group in groups:
                    self.assertEqual([die[rank] for die in cup], [thickness * (k in group) for k in range(many)])
                    rank += 1
            self.assertEqual({sum(die) for die in cup}, {sum(thickness for thickness, _ in levels)})
            self.assertEqual((table_of(cup), table_of(many_cup(cup, 2))), added_by_levels(many, levels))

    def test_known_ones(self):
        self.same(cup_of_levels(3, [(1, [[0], [1, 2]]), (2, [[0, 1, 2]])]).dice, ((1, 0, 2), (0, 1, 2), (0, 1, 2)))
        self.same(cup_of_levels(1, ([5, ([0],)],)).dice, ((5,),))
        # all dice in one group of each level
        cup = cup_of_levels(3, [(2, [[2, 0, 1]]), (10 ** 28, ((1, 2, 0),))])
        self.same(cup.dice, ((2, 10 ** 28),) * 3)
        self.same([table_of(cup), table_of(many_cup(cup, 2))], [ZERO, ZERO])

    def test_four_levels(self):
        chooser = chooser_of(572)
        for _ in range(50):
            many, r, gap = chooser.randint(2, 4), chooser.randint(1, 5), chooser.randint(1, 9)
            groups = some_groups(chooser, many)
            orders = [groups, groups[::-1], groups[::-1], groups]
            cup = cup_of_levels(many, [(gap, [list(range(many))])] + [(r, order) for order in orders])
            place = {number: k for k, group in enumerate(groups) for number in group}
            self.assertFalse(any(any(row) for row in table_of(cup)))
            two = table_of(many_cup(cup, 2))
            for a, b in itertools.permutations(range(many), 2):
                self.assertEqual(two[a][b], 16 * r ** 4 * ((place[a] > place[b]) - (place[a] < place[b])))

    def test_errors(self):
        check_number(self, "many", (0, -1), lambda value: cup_of_levels(value, None))
        for value in NO_ROWS + ((), []):
            self.fails(BadNumber, {"name": "levels"}, cup_of_levels, 2, value)
        right = (1, [[0], [1]])
        groups = NO_ROWS + (
            (), [], [[0]], [[0], []], [[0], [1], []], [[0, 1, 0]], [[0], [0, 1]], [[0, 1, 2]], [[0, -1]], [0, 1],
            [[0], [True]], [[False, 1]], [[0], [1.0]], [["0", 1]], [[0], None],
        )
        for wrong in NO_ROWS + ((), (1,), (1, [[0, 1]], 0)) + tuple((1, value) for value in groups) + tuple(
            (value, [[0, 1]]) for value in NO_INTS + (0, -1)
        ):
            self.fails(BadNumber, {"name": "levels"}, cup_of_levels, 2, [right, wrong])


class StretchTest(DiceTest):
    def check(self, worth, start):
        """A stretch for the worth from the start."""
        found = stretch_of(worth, start)
        self.assertIs(type(found), list)
        for level in found:
            self.assertIs(type(level), tuple)
            thickness, sign = level
            self.assertTrue(type(thickness) is int and thickness >= 1 and type(sign) is int and sign in (-1, 0, 1))
        self.assertEqual(sums_of(found, start), (0, worth))
        return found

    def test_all_small(self):
        for worth in range(-2000, 2001, 8):
            self.check(worth, abs(worth) % 7)
        self.same([stretch_of(0, 0), stretch_of(0, 10 ** 6)], [[], []])

    def test_great_ones(self):
        chooser = chooser_of(573)
        for _ in range(300):
            self.check(8 * chooser.randint(-10 ** 9 // 8, 10 ** 9 // 8), chooser.choice((0, 1, chooser.randint(0, 10 ** 6))))
        for worth, start in ((10 ** 9, 10 ** 6), (-10 ** 9, 0), (8, 10 ** 6), (-8, 10 ** 6)):
            self.ends_soon(1, stretch_of, worth, start)
            self.check(worth, start)

    def test_new_lists(self):
        found = stretch_of(0, 0)
        found.append(1)
        self.same(stretch_of(0, 0), [])

    def test_errors(self):
        check_number(self, "worth", (4, -4, 1, 9, 10 ** 8 + 4), lambda value: stretch_of(value, None))
        check_number(self, "start", (-1,), lambda value: stretch_of(8, value))
        check_number(self, "start", (-1,), lambda value: stretch_of(0, value))


class DoubleTest(DiceTest):
    def check(self, table, other):
        """A cup with both tables, or None; whether it is there."""
        found = double_cup(table, other)
        even = all((a - b) % 2 == 0 for row, more in zip(table, other) for a, b in zip(row, more))
        self.assertEqual(found is not None, even)
        if even:
            self.assertIs(type(found), Cup)
            self.same([table_of(found), table_of(many_cup(found, 2))], [table, other])
            self.assertEqual(len({sum(die) for die in found}), 1)
            self.assertLessEqual(found.ranks, 300)
            self.assertLessEqual(sum(found[0]), 1000)
        return even

    def test_two_dice(self):
        for table in all_tables(2, 6):
            for other in all_tables(2, 6):
                self.check(table, other)

    def test_three_dice(self):
        chooser = chooser_of(574)
        tables = list(all_tables(3, 6))
        there = [self.check(chooser.choice(tables), chooser.choice(tables)) for _ in range(500)]
        self.assertTrue(True in there and False in there)
        for table in itertools.islice(tables, 0, None, 11):
            # even and odd entries beside one another, all differences even
            pairs = [table[i][j] + 2 * chooser.randint(-3, 3) for i, j in ((0, 1), (0, 2), (1, 2))]
            other = table_of_pairs(3, [entry if abs(entry) <= 6 else entry % 2 for entry in pairs])
            self.assertTrue(self.check(table, other))

    def test_known_ones(self):
        self.assertTrue(self.check(((0, 1), (-1, 0)), ((0, -1), (1, 0))))
        self.assertTrue(self.check(ZERO, ZERO))
        self.assertTrue(self.check(((0,),), ((0,),)))
        self.assertFalse(self.check(((0, 1), (-1, 0)), ((0, 2), (-2, 0))))
        # only one of three differences is odd
        self.assertIsNone(double_cup(table_of_pairs(3, (1, 2, 3)), table_of_pairs(3, (1, 3, 3))))
        self.assertIsNone(double_cup(table_of_pairs(3, (1, 2, 3)), table_of_pairs(3, (1, 2, -6))))

    def test_every_cup_has_even_differences(self):
        chooser = chooser_of(575)
        for _ in range(200):
            cup = some_dice(chooser, 3, chooser.randint(1, 5), 4)
            one, two = table_of(cup), table_of(many_cup(cup, 2))
            self.assertTrue(all((a - b) % 2 == 0 for row, more in zip(one, two) for a, b in zip(row, more)))

    def test_greatest(self):
        for signs in itertools.product((-6, 6), repeat=3):
            for others in itertools.product((-6, 6), repeat=3):
                table, other = table_of_pairs(3, signs), table_of_pairs(3, others)
                self.ends_soon(1, double_cup, table, other)
                self.check(table, other)

    def test_what_was_returned(self):
        cup = double_cup(table_of_pairs(3, (6, -5, 4)), table_of_pairs(3, (-6, 5, -4)))
        for count in range(1, 7):
            self.assertEqual(self.ends_soon(1, many_cup, cup, count).many, 3)
        self.assertIsNotNone(self.ends_soon(2, closing_place, many_cup(cup, 6), [0, 1, 2]))

    def test_errors(self):
        check_tables(self, lambda value: double_cup(value, None))
        check_tables(self, lambda value: double_cup(((0, 9), (-9, 0)), value))
        big, four = table_of_pairs(3, (1, 1, 7)), ((0,) * 4,) * 4
        self.fails(OtherSize, {"first": 4, "second": 3}, double_cup, four, big)
        self.fails(OtherSize, {"first": 2, "second": 3}, double_cup, ((0, 7), (-7, 0)), big)
        self.fails(TooMany, {"name": "table"}, double_cup, four, four)
        self.fails(TooMany, {"name": "table"}, double_cup, big, big)
        self.fails(TooMany, {"name": "table"}, double_cup, table_of_pairs(3, (-7, 1, 1)), ZERO)
        self.fails(TooMany, {"name": "other"}, double_cup, ZERO, big)
        # ahead of what is even or odd
        self.fails(TooMany, {"name": "other"}, double_cup, ZERO, table_of_pairs(3, (1, 0, -10 ** 9)))
        self.fails(BadTable, {"place": 1}, double_cup, ((0, 8), (-8, 0)), ((0, 1), (1, 0)))


class TurningTest(DiceTest):
    def test_rings(self):
        for many in (3, 4):
            cup = self.ends_soon(1, turning_ring, many)
            self.assertIs(type(cup), Cup)
            self.same(cup.many, many)
            self.assertEqual(len({sum(die) for die in cup}), 1)
            self.assertLessEqual(cup.ranks, 300)
            self.assertLessEqual(sum(cup[0]), 1000)
            twice = many_cup(cup, 2)
            for number in range(many):
                self.assertTrue(beats(cup[number], cup[(number + 1) % many]))
                self.assertTrue(beats(twice[(number + 1) % many], twice[number]))
            self.assertIsNotNone(closing_place(twice, list(range(many))))

    def test_errors(self):
        check_number(self, "many", (2, 5, 0, -3), turning_ring)


if __name__ == "__main__":
    unittest.main()
