"""Sizes: the greatest cups, tables and texts of stage 1, each with a limit of time."""

import unittest

from dicewins.cups import Cup, stacked
from dicewins.dice import belows, mixed_die, stands_over
from dicewins.tables import table_of, throws_times
from dicewins.texts import cup_from, cup_text
from dicewins.throws import areas, half_chance, lead
from helping import DiceTest, chooser_of, some_dice

GREATEST = Cup(some_dice(chooser_of(121), 40, 4000, 10 ** 60))


class SizeTest(DiceTest):
    def test_dice(self):
        a, b = GREATEST[0], GREATEST[39]
        for call in (lead, half_chance, areas, stands_over):
            self.ends_soon(2, call, a, b)
        self.ends_soon(2, belows, a)
        self.assertEqual(self.ends_soon(5, mixed_die, (1,) * 40, *GREATEST)[0], sum(die[0] for die in GREATEST))

    def test_table(self):
        found = self.ends_soon(10, table_of, GREATEST)
        self.assertEqual(found[3][7], lead(GREATEST[3], GREATEST[7]))
        self.same(self.ends_soon(10, throws_times, GREATEST, found), 1)
        self.same(self.ends_soon(10, throws_times, GREATEST.scaled([3] * 40), found), 9)

    def test_made_cups(self):
        self.assertEqual(self.ends_soon(5, stacked, GREATEST, GREATEST).ranks, 8000)
        self.assertEqual(self.ends_soon(5, GREATEST.wide).ranks, 8001)
        self.assertEqual(self.ends_soon(5, GREATEST.spread, 3).ranks, 12000)
        self.assertIs(self.ends_soon(5, GREATEST.is_deck), False)

    def test_text(self):
        text = self.ends_soon(10, cup_text, GREATEST)
        self.assertEqual(self.ends_soon(10, cup_from, text), GREATEST)

    def test_deck(self):
        word = [letter for letter in range(40) for _ in range(100)]
        deck = self.ends_soon(5, Cup.of_word, word, 40)
        self.assertEqual(self.ends_soon(5, table_of, deck)[0], (0,) + (-10000,) * 39)


if __name__ == "__main__":
    unittest.main()
