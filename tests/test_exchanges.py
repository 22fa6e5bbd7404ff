"""Points 21 to 24: cells between words, and ways of fewest exchanges."""

import itertools
import unittest

from dicewins.errors import BadNumber, BadWord, OtherSize
from dicewins.exchanges import cells_between, crossing_pair, exchange_way, fewest_exchanges, halfway
from dicewins.words import word_table
from helping import NO_INTS, DiceTest, chooser_of, some_word, steps_from
from test_words import check_own_word

WAYS = (fewest_exchanges, exchange_way, crossing_pair)


def ahead(word, first, second):
    """The cells that are ahead in the word."""
    places = {letter: [k for k, found in enumerate(word) if found == letter] for letter in (first, second)}
    return {
        (x, y) for x, here in enumerate(places[first]) for y, there in enumerate(places[second]) if here < there
    }


def cells_told(word, other, first, second):
    """The cells between two words by the words of point 22."""
    return sorted(ahead(word, first, second) ^ ahead(other, first, second))


def moves_of(word):
    """The words one exchange behind the word."""
    pairs = [k for k in range(len(word) - 1) if word[k] != word[k + 1]]
    return [word[:k] + (word[k + 1], word[k]) + word[k + 2:] for k in pairs]


def pairs_of_words(seed, count):
    """Pairs of alike words."""
    chooser = chooser_of(seed)
    for _ in range(count):
        many = chooser.randint(1, 4)
        word = some_word(chooser, many, many + chooser.randint(0, 8))
        other = list(word)
        chooser.shuffle(other)
        yield word, tuple(other), many


class CellTest(DiceTest):
    def test_cells(self):
        for word, other, many in pairs_of_words(81, 200):
            for first, second in itertools.combinations(range(many), 2):
                self.same(cells_between(list(word), other, first, second), cells_told(word, other, first, second))

    def test_an_exchange_flips_one_cell(self):
        self.same(cells_between((0, 1, 0, 1), (0, 1, 1, 0), 0, 1), [(1, 1)])
        self.same(cells_between((0, 1), (0, 1), 0, 1), [])

    def test_errors_behind(self):
        for value in NO_INTS + (-1, 3):
            self.fails(BadNumber, {"name": "first"}, cells_between, (0, 1, 2), (2, 1, 0), value, None)
        for value in NO_INTS + (-1, 0, 1, 3):
            self.fails(BadNumber, {"name": "second"}, cells_between, (0, 1, 2), (2, 1, 0), 1, value)
        self.fails(BadNumber, {"name": "second"}, cells_between, (0, 1, 2), (2, 1, 0), 2, 2)
        self.fails(BadNumber, {"name": "second"}, cells_between, (0,), (0,), 0, 0)


class FewestTest(DiceTest):
    def test_by_walking(self):
        for word in ((0,), (0, 0), (0, 1), (0, 1, 1, 0, 1), (0, 1, 2, 0, 1), (2, 1, 0, 2, 1), (3, 0, 1, 2, 0)):
            for other, steps in steps_from(word, moves_of).items():
                self.same(fewest_exchanges(word, other), steps)

    def test_sum_of_cells(self):
        for word, other, many in pairs_of_words(82, 200):
            told = sum(len(cells_told(word, other, a, b)) for a, b in itertools.combinations(range(many), 2))
            self.same(fewest_exchanges(word, other), told)
            self.assertEqual(fewest_exchanges(other, word), told)
            self.assertEqual(told == 0, word == other)

    def test_three_words(self):
        chooser = chooser_of(83)
        for word, other, _ in pairs_of_words(84, 100):
            third = list(word)
            chooser.shuffle(third)
            longer = fewest_exchanges(word, third) + fewest_exchanges(third, other)
            self.assertLessEqual(fewest_exchanges(word, other), longer)


class WayTest(DiceTest):
    def check_way(self, way, word, other):
        """The way leads from the word to the other one by fewest exchanges."""
        self.assertIs(type(way), list)
        self.same([way[0], way[-1]], [word, other])
        self.assertEqual(len(way), fewest_exchanges(word, other) + 1)
        for here, there in itertools.pairwise(way):
            self.assertIs(type(there), tuple)
            places = [k for k in range(len(here)) if here[k] != there[k]]
            self.assertEqual(len(places), 2)
            self.assertEqual(places[1] - places[0], 1)
            self.assertEqual((here[places[0]], here[places[1]]), (there[places[1]], there[places[0]]))

    def test_ways(self):
        for word, other, _ in pairs_of_words(85, 200):
            self.check_way(exchange_way(list(word), list(other)), word, other)

    def test_halfway(self):
        for word, other, _ in pairs_of_words(86, 60):
            fewest = fewest_exchanges(word, other)
            for number in range(fewest + 1):
                found = halfway(word, other, number)
                self.assertEqual(fewest_exchanges(word, found), number)
                self.assertEqual(fewest_exchanges(found, other), fewest - number)
            self.same([halfway(list(word), other, 0), halfway(word, list(other), fewest)], [word, other])

    def test_equal_words(self):
        self.same(exchange_way([1, 0], (1, 0)), [(1, 0)])
        self.same(halfway((1, 0), [1, 0], 0), (1, 0))
        self.same(exchange_way([0], [0]), [(0,)])

    def test_a_returned_list_is_new(self):
        exchange_way((0, 1), (1, 0)).clear()
        self.same(exchange_way((0, 1), (1, 0)), [(0, 1), (1, 0)])

    def test_errors_of_halfway(self):
        for number in NO_INTS + (-1, 3):
            self.fails(BadNumber, {"name": "number"}, halfway, (0, 1, 1), (1, 1, 0), number)
        self.fails(BadNumber, {"name": "number"}, halfway, (0, 1), (0, 1), 1)


class CrossingTest(DiceTest):
    def test_by_its_words(self):
        found = 0
        for word, other, many in pairs_of_words(87, 400):
            told = None
            for first, second in itertools.combinations(range(many), 2):
                here, there = ahead(word, first, second), ahead(other, first, second)
                if told is None and here - there and there - here:
                    told = (first, second)
            self.same(crossing_pair(word, list(other)), told)
            found += told is not None
        self.assertGreater(found, 50)

    def test_half_the_sum(self):
        for word, other, many in pairs_of_words(88, 400):
            mine, others = word_table(word, many), word_table(other, many)
            twice = sum(abs(mine[a][b] - others[a][b]) for a, b in itertools.combinations(range(many), 2))
            self.assertGreaterEqual(2 * fewest_exchanges(word, other), twice)
            self.assertEqual(2 * fewest_exchanges(word, other) == twice, crossing_pair(word, other) is None)


class ErrorTest(DiceTest):
    def test_words(self):
        for call in WAYS + (lambda a, b: cells_between(a, b, None, None), lambda a, b: halfway(a, b, None)):
            check_own_word(self, lambda value: call(value, None))
            check_own_word(self, lambda value: call((0, 1), value))
            self.fails(OtherSize, {"first": 2, "second": 3}, call, (0, 1), (0, 1, 2))
            self.fails(OtherSize, {"first": 2, "second": 1}, call, [0, 1], [0])
            self.fails(BadWord, {"place": -3}, call, (0, 1, 1), (0, 0, 1))
            self.fails(BadWord, {"place": -3}, call, (0, 1, 1), (0, 1, 2))


class SizeTest(DiceTest):
    def test_greatest_words(self):
        for word in (tuple(range(400)), (0,) * 200 + (1,) * 200, tuple(k // 2 for k in range(400))):
            other = word[::-1]
            self.ends_soon(5, fewest_exchanges, word, other)
            self.ends_soon(5, crossing_pair, word, other)
            self.ends_soon(5, cells_between, word, other, 0, 1)

    def test_greatest_ways(self):
        for word in (tuple(range(60)), (0,) * 30 + (1,) * 30):
            other = word[::-1]
            way = self.ends_soon(5, exchange_way, word, other)
            self.same([len(way), way[-1]], [fewest_exchanges(word, other) + 1, other])
            self.ends_soon(5, halfway, word, other, 900)


if __name__ == "__main__":
    unittest.main()
