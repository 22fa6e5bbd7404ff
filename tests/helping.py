"""What several tests use."""

import itertools
import math
import random
import time
import unittest
from fractions import Fraction

from dicewins.errors import BadDie, BadNumber, DiceError

NO_ROWS = (None, True, 3, "01", b"01", {0: 1}, {0, 1}, range(2), iter([0, 1]), 1.5)
NO_INTS = (None, True, False, "1", 1.0, (1,), [1])


class DiceTest(unittest.TestCase):
    """A test that tells errors by class and attributes."""

    def fails(self, error, told, call, *args, **more):
        """The call raises just this error, with the attributes told, and the arguments are as before."""
        before = repr(args)
        with self.assertRaises(DiceError) as caught:
            call(*args, **more)
        self.assertIs(type(caught.exception), error, (call, args))
        self.assertEqual(vars(caught.exception), told, (call, args))
        self.assertEqual(repr(args), before)
        return caught.exception

    def same(self, found, expected):
        """Equal, and of the same kind all the way down."""
        self.assertEqual(found, expected)
        self.assertEqual(repr(found), repr(expected))

    def ends_soon(self, seconds, call, *args):
        """What the call returns, if it does so within the limit."""
        begun = time.perf_counter()
        found = call(*args)
        self.assertLess(time.perf_counter() - begun, seconds, call)
        return found


def check_die(test, call):
    """The call raises BadDie for what is no die."""
    for value in NO_ROWS + ((), [], (0,), [0, 0]):
        test.fails(BadDie, {"place": -1}, call, value)
    for value in NO_INTS + (-1,):
        test.fails(BadDie, {"place": 1}, call, (0, value, -1))
        test.fails(BadDie, {"place": 0}, call, [value])


def check_number(test, name, wrong, call):
    """The call raises BadNumber of this name for what is no integer and for the wrong ones."""
    for value in NO_INTS + tuple(wrong):
        test.fails(BadNumber, {"name": name}, call, value)


def some_die(chooser, ranks, most):
    """A die with entries up to most."""
    while True:
        die = tuple(chooser.randint(0, most) for _ in range(ranks))
        if any(die):
            return die


def some_dice(chooser, many, ranks, most):
    """A row of dice."""
    return [some_die(chooser, ranks, most) for _ in range(many)]


def some_table(chooser, many, most):
    """A skew table with entries up to most in size."""
    rows = [[0] * many for _ in range(many)]
    for i in range(many):
        for j in range(i):
            rows[i][j] = chooser.randint(-most, most)
            rows[j][i] = -rows[i][j]
    return tuple(tuple(row) for row in rows)


def table_of_pairs(many, pairs):
    """The skew table with these entries above the diagonal, in reading order."""
    rows = [[0] * many for _ in range(many)]
    places = [(i, j) for i in range(many) for j in range(i + 1, many)]
    for (i, j), entry in zip(places, pairs, strict=True):
        rows[i][j] = entry
        rows[j][i] = -entry
    return tuple(tuple(row) for row in rows)


def all_tables(many, most):
    """All skew tables of so many dice with entries up to most in size."""
    for pairs in itertools.product(range(-most, most + 1), repeat=many * (many - 1) // 2):
        yield table_of_pairs(many, pairs)


def sum_of_planes(chooser, many, planes, most):
    """A skew table that is the sum of so many planes, so of twice that rank at most."""
    pairs = [[[chooser.randint(-most, most) for _ in range(many)] for _ in range(2)] for _ in range(planes)]
    return tuple(
        tuple(sum(u[i] * v[j] - v[i] * u[j] for u, v in pairs) for j in range(many)) for i in range(many)
    )


def odd_table(chooser, many, most):
    """A skew table with odd entries alone off the diagonal."""
    pairs = [chooser.randrange(-most, most, 2) | 1 for _ in range(many * (many - 1) // 2)]
    return table_of_pairs(many, pairs)


def in_order(many, entry=1):
    """The table of dice in one order, in which each one beats all dice behind it."""
    return table_of_pairs(many, [entry] * (many * (many - 1) // 2))


def many_tables(chooser, most_dice=8):
    """Tables of each sort: all 0, in one order, great, of low rank, odd, with like dice, of cups on few ranks."""
    found = []
    for many in range(1, most_dice + 1):
        found.extend((in_order(many), in_order(many, 0), in_order(many, -3)))
        for most in (1, 2, 9, 10 ** 6):
            for _ in range(4):
                found.append(some_table(chooser, many, most))
            found.append(odd_table(chooser, many, most))
        for planes in (1, 2, 3):
            for _ in range(4):
                found.append(sum_of_planes(chooser, many, planes, 3))
        for ranks in (2, 3, 4, 6):
            found.append(counted_table(some_dice(chooser, many, ranks, 2)))
        rows = [chooser.randrange(many) for _ in range(many)]
        small = some_table(chooser, many, 2)
        found.append(tuple(tuple(small[i][j] for j in rows) for i in rows))
    return found


def worth_told(table, weights):
    """The worth of a weighing, by its words."""
    return tuple(sum(entry * weight for entry, weight in zip(row, weights)) for row in table)


def is_short(row):
    """True if no integer above 1 divides all entries."""
    return math.gcd(*row) <= 1


def digits_of(*rows):
    """The most digits of an integer in the rows."""
    return max(len(str(abs(entry))) for row in rows for entry in row)


def some_word(chooser, many, letters):
    """A word over many dice."""
    word = list(range(many)) + [chooser.randrange(many) for _ in range(letters - many)]
    chooser.shuffle(word)
    return tuple(word)


def faces_of(die):
    """The ranks of the faces of a die, one entry for each face."""
    return [rank for rank, count in enumerate(die) for _ in range(count)]


def counted(first, second):
    """Wins of the first die, ties, and wins of the second die, pair by pair."""
    pairs = [(a, b) for a in faces_of(first) for b in faces_of(second)]
    return (
        sum(a > b for a, b in pairs),
        sum(a == b for a, b in pairs),
        sum(a < b for a, b in pairs),
    )


def counted_table(dice):
    """The table of a row of dice, counted pair by pair."""
    rows = []
    for first in dice:
        row = []
        for second in dice:
            won, _, lost = counted(first, second)
            row.append(won - lost)
        rows.append(tuple(row))
    return tuple(rows)


def worth_of(value):
    """A Fraction of a fraction of the program."""
    return Fraction(value[0], value[1])


def is_lowest(value):
    """True if the value is a fraction as the program returns them."""
    if type(value) is not tuple or len(value) != 2 or not all(type(entry) is int for entry in value):
        return False
    fitting = Fraction(value[0], value[1])
    return (fitting.numerator, fitting.denominator) == value


def steps_from(start, moves):
    """The least numbers of steps from the start to all that can be reached, where moves tells what is one step away."""
    found = {start: 0}
    edge = [start]
    while edge:
        after = []
        for here in edge:
            for there in moves(here):
                if there not in found:
                    found[there] = found[here] + 1
                    after.append(there)
        edge = after
    return found


def chooser_of(seed):
    """A source of choices that are the same in each run."""
    return random.Random(seed)
