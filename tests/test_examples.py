"""The examples of the document, word for word."""

import doctest
import unittest

STAGE_1 = '''
    >>> from dicewins.throws import areas, chance, half_chance, lead
    >>> a, b = (0, 2, 1), (1, 1, 1)
    >>> [lead(a, b), areas(a, b), chance(a, b), half_chance(a, b)]
    [2, (0, 2, 0), (4, 9), (11, 18)]

    >>> from dicewins.cups import Cup
    >>> cup = Cup([(2, 0), (1, 1)])
    >>> [(cup + ~cup).dice, cup.spread(2).dice, cup.wide().dice]
    [((2, 0, 0, 2), (1, 1, 1, 1)), ((2, 2, 0, 0), (1, 1, 1, 1)), ((0, 2, 0, 0, 0), (0, 1, 0, 1, 0))]

    >>> from dicewins.tables import table_of
    >>> table_of([(0, 1, 0, 1, 0, 0, 0, 0, 1), (1, 0, 0, 0, 0, 1, 0, 1, 0), (0, 0, 1, 0, 1, 0, 1, 0, 0)])
    ((0, 1, -1), (-1, 0, 1), (1, -1, 0))
'''

STAGE_2 = '''
    >>> from dicewins.making import deck_beside, deck_for, even_deck_for, odd_lot
    >>> from dicewins.tables import table_of
    >>> table = ((0, 1, 2), (-1, 0, 0), (-2, 0, 0))
    >>> [odd_lot(table), table_of(deck_for(table)) == table, even_deck_for(table)]
    [(0, 1), True, None]
    >>> deck_beside([(2, 0), (1, 1)]).dice
    ((2, 0, 0, 2, 0, 0), (0, 1, 1, 0, 1, 1))

    >>> from dicewins.exchanges import cells_between, crossing_pair, fewest_exchanges
    >>> from dicewins.pairing import paired_moves
    >>> one, two = (0, 1, 1, 0), (1, 0, 0, 1)
    >>> [cells_between(one, two, 0, 1), fewest_exchanges(one, two), crossing_pair(one, two), paired_moves(one, two)]
    [[(0, 0), (1, 1)], 2, (0, 1), 1]

    >>> from dicewins.programs import greatest_sum
    >>> found = greatest_sum((1, 1), ((1, 2), (3, 1)), (4, 6))
    >>> [found.word, found.total, found.unknowns, found.weights]
    ['reached', (14, 5), ((8, 5), (6, 5)), ((2, 5), (1, 5))]
'''


class ExampleTest(unittest.TestCase):
    def check(self, text, many):
        """Each example of the text gives what stands below it."""
        examples = doctest.DocTestParser().get_doctest(text, {}, "document", None, 0)
        told = []
        result = doctest.DocTestRunner(verbose=False).run(examples, out=told.append)
        self.assertEqual(result.failed, 0, "".join(told))
        self.assertEqual(result.attempted, many)

    def test_stage_1(self):
        self.check(STAGE_1, 8)

    def test_stage_2(self):
        self.check(STAGE_2, 12)


if __name__ == "__main__":
    unittest.main()
