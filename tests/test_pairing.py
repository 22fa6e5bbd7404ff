"""Points 25 and 26: words over two dice and paired moves."""

import itertools
import unittest

from dicewins.errors import BadWord, OtherSize
from dicewins.exchanges import cells_between
from dicewins.pairing import paired_moves, paired_way, same_lead
from dicewins.words import word_table
from helping import NO_INTS, NO_ROWS, DiceTest, chooser_of, some_word, steps_from

SMALL = [word for size in range(2, 9) for word in itertools.product((0, 1), repeat=size) if len(set(word)) == 2]


def lead_of(word):
    """The lead of die 0 over die 1."""
    return word_table(word, 2)[0][1]


def exchanges_of(word, pair):
    """The words in which neighbours that are the pair have been exchanged."""
    return [
        word[:k] + pair[::-1] + word[k + 2:] for k in range(len(word) - 1) if word[k:k + 2] == pair
    ]


def moves_of(word):
    """The words one paired move behind the word."""
    found = set()
    for one, two in (((0, 1), (1, 0)), ((1, 0), (0, 1))):
        for between in exchanges_of(word, one):
            found.update(exchanges_of(between, two))
    # the way back flips the same cell twice
    return found - {word}


class MoveTest(DiceTest):
    def check_way(self, way, word, other):
        """The way leads from the word to the other one by paired moves."""
        self.assertIs(type(way), list)
        self.same([way[0], way[-1]], [word, other])
        self.assertEqual(len(way), paired_moves(word, other) + 1)
        for here, there in itertools.pairwise(way):
            self.assertIs(type(there), tuple)
            self.assertIn(there, moves_of(here))
            self.assertEqual(len(cells_between(here, there, 0, 1)), 2)

    def test_by_walking(self):
        for word in SMALL:
            steps = steps_from(word, moves_of)
            for other in set(itertools.permutations(word)) if len(word) < 7 else steps:
                self.same(paired_moves(word, other), steps.get(other))
                self.assertEqual(other in steps, lead_of(word) == lead_of(other))
                way = paired_way(list(word), list(other))
                if other in steps:
                    self.check_way(way, word, other)
                else:
                    self.assertIsNone(way)

    def test_half_the_cells(self):
        chooser = chooser_of(91)
        for _ in range(300):
            word = some_word(chooser, 2, chooser.randint(2, 14))
            other = list(word)
            chooser.shuffle(other)
            if lead_of(word) == lead_of(other):
                self.same(paired_moves(word, other), len(cells_between(word, other, 0, 1)) // 2)
                self.check_way(paired_way(word, other), word, tuple(other))
            else:
                self.assertIsNone(paired_moves(word, other))
                self.assertIsNone(paired_way(word, other))

    def test_equal_words(self):
        self.same([paired_moves([0, 1], (0, 1)), paired_way([0, 1], (0, 1))], [0, [(0, 1)]])

    def test_longest_ways(self):
        word = (0,) * 15 + (1,) * 30 + (0,) * 15
        other = (1,) * 15 + (0,) * 30 + (1,) * 15
        way = self.ends_soon(5, paired_way, word, other)
        self.assertEqual(len(way), paired_moves(word, other) + 1)
        great = (0,) * 100 + (1,) * 200 + (0,) * 100
        self.same(self.ends_soon(5, paired_moves, great, (1,) * 100 + (0,) * 200 + (1,) * 100), 10000)


class SameLeadTest(DiceTest):
    def test_by_its_words(self):
        for word in SMALL:
            others = set(itertools.permutations(word)) - {word}
            told = any(lead_of(other) == lead_of(word) for other in others) if len(word) < 8 else bool(moves_of(word))
            self.assertIs(same_lead(list(word)), told, word)
            self.assertEqual(told, bool(moves_of(word)))

    def test_edges(self):
        for word, told in (
            ((0, 1), False), ((0, 0, 1, 1), False), ((1, 1, 0, 0), False), ((0, 1, 0, 1), False), ((1, 0, 1, 0), False),
            ((0, 1, 1, 0), True), ((0, 1, 0, 0, 0), False), ((1, 0, 1, 1), False),
        ):
            self.assertIs(same_lead(word), told)
        self.assertIs(self.ends_soon(5, same_lead, (0, 1) * 200), True)


class ErrorTest(DiceTest):
    def test_words(self):
        calls = [same_lead]
        for call in (paired_moves, paired_way):
            calls.append(lambda value, call=call: call(value, None))
            calls.append(lambda value, call=call: call((0, 1), value))
        for call in calls:
            for value in NO_ROWS:
                self.fails(BadWord, {"place": -1}, call, value)
            for value in NO_INTS + (-1, 2):
                self.fails(BadWord, {"place": 1}, call, (0, value, 7))
            for value in ((), [], (0,), (1,), (0, 0), [1, 1]):
                self.fails(BadWord, {"place": -2}, call, value)

    def test_two_words(self):
        for call in (paired_moves, paired_way):
            self.fails(OtherSize, {"first": 2, "second": 3}, call, (0, 1), (0, 1, 1))
            self.fails(BadWord, {"place": -3}, call, (0, 1, 1), (0, 1, 0))


if __name__ == "__main__":
    unittest.main()
