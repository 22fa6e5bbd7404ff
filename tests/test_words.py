"""Points 10 and 21: words and exchanges in them."""

import unittest

from dicewins.cups import Cup
from dicewins.errors import BadNumber, BadWord, NotDeck
from dicewins.making import deck_for
from dicewins.tables import table_of
from dicewins.words import check_word, swapped, word_of, word_table
from helping import NO_INTS, NO_ROWS, DiceTest, chooser_of, some_word
from test_cups import check_cup


def check_own_word(test, call):
    """The call raises BadWord for what is no word over the dice to its greatest letter."""
    for value in NO_ROWS:
        test.fails(BadWord, {"place": -1}, call, value)
    for value in NO_INTS + (-1,):
        test.fails(BadWord, {"place": 1}, call, [0, value, -1])
        test.fails(BadWord, {"place": 0}, call, (value, 7))
    test.fails(BadWord, {"place": 1}, call, [0, -1, None])
    for value in ([], (), (1,), (0, 2), [0, 3, 1], (0, 10 ** 28)):
        test.fails(BadWord, {"place": -2}, call, value)


class WordOfTest(DiceTest):
    def test_words(self):
        self.same(word_of([(0, 2, 0, 1), (1, 0, 3, 0)]), (1, 0, 0, 1, 1, 1, 0))
        self.same(word_of(Cup([(0, 1)])), (0,))
        self.same(word_of([(0, 1, 0), (0, 0, 1)]), (0, 1))

    def test_there_and_back(self):
        chooser = chooser_of(71)
        for _ in range(100):
            many = chooser.randint(1, 5)
            word = some_word(chooser, many, many + chooser.randint(0, 8))
            self.same(word_of(Cup.of_word(list(word), many)), word)
            self.same(check_word(list(word), many), word)
            self.same(word_table(word, many), table_of(Cup.of_word(word, many)))

    def test_made_decks_have_words(self):
        deck = deck_for(((0, 3, 4), (-3, 0, 2), (-4, -2, 0)))
        self.assertEqual(word_table(word_of(deck), 3), table_of(deck))

    def test_no_decks(self):
        check_cup(self, word_of)
        self.fails(NotDeck, {"rank": 0}, word_of, [(1, 1), (1, 0)])
        self.fails(NotDeck, {"rank": 1}, word_of, [(10 ** 60, 1), (0, 1)])
        self.fails(NotDeck, {"rank": 2}, word_of, [(1, 0, 0, 1), (0, 1, 1, 1), (0, 0, 1, 1)])


class CheckWordTest(DiceTest):
    def test_errors_in_order(self):
        for call in (check_word, word_table):
            for many in NO_INTS + (0, -1):
                self.fails(BadNumber, {"name": "many"}, call, None, many)
            for value in NO_ROWS:
                self.fails(BadWord, {"place": -1}, call, value, 2)
            for value in NO_INTS + (-1, 2):
                self.fails(BadWord, {"place": 1}, call, [0, value, 5], 2)
            for word in ([], (0, 0), (1, 1)):
                self.fails(BadWord, {"place": -2}, call, word, 2)

    def test_edges(self):
        self.same(check_word([0], 1), (0,))
        self.same(word_table([0], 1), ((0,),))
        self.same(word_table([0, 1, 1], 2), ((0, -2), (2, 0)))

    def test_greatest_words(self):
        word = tuple(range(400))
        table = self.ends_soon(5, word_table, word, 400)
        self.assertEqual([table[0][399], table[399][0], table[5][5]], [-1, 1, 0])


class SwappedTest(DiceTest):
    def test_swapped(self):
        self.same(swapped([0, 1, 1], 0), (1, 0, 1))
        self.same(swapped((2, 0, 1), 1), (2, 1, 0))

    def test_leads(self):
        chooser = chooser_of(72)
        for _ in range(100):
            word = some_word(chooser, 3, 8)
            for at in range(7):
                if word[at] != word[at + 1]:
                    old = [list(row) for row in word_table(word, 3)]
                    old[word[at]][word[at + 1]] += 2
                    old[word[at + 1]][word[at]] -= 2
                    self.assertEqual([list(row) for row in word_table(swapped(word, at), 3)], old)

    def test_errors_in_order(self):
        check_own_word(self, lambda value: swapped(value, None))
        for at in NO_INTS + (-1, 1, 3, 4, 10 ** 28):
            self.fails(BadNumber, {"name": "at"}, swapped, (0, 1, 1, 0), at)
        self.fails(BadNumber, {"name": "at"}, swapped, [0], 0)


if __name__ == "__main__":
    unittest.main()
