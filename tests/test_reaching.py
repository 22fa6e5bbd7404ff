"""Point 8: which leads are there."""

import unittest

from dicewins.cups import Cup
from dicewins.errors import BadNumber
from dicewins.reaching import deck_with_lead, with_lead
from helping import NO_INTS, DiceTest, chooser_of, counted, some_dice


class ReachTest(DiceTest):
    def check(self, cup, first, second, number):
        """The cup has the numbers of faces and the lead, on few enough ranks."""
        self.assertIs(type(cup), Cup)
        self.assertEqual([sum(die) for die in cup], [first, second])
        self.assertLessEqual(cup.ranks, first + second)
        won, _, lost = counted(*cup)
        self.assertEqual(won - lost, number)

    def test_every_lead(self):
        for first in range(1, 7):
            for second in range(1, 7):
                for number in range(-first * second, first * second + 1):
                    self.check(with_lead(first, second, number), first, second, number)
                    deck = deck_with_lead(first, second, number)
                    if (first * second - number) % 2:
                        self.assertIsNone(deck)
                    else:
                        self.check(deck, first, second, number)
                        self.assertIs(deck.is_deck(), True)

    def test_greatest_numbers(self):
        for number in (-10 ** 6, -999999, -1, 0, 1, 123456, 999999, 10 ** 6):
            cup = self.ends_soon(2, with_lead, 1000, 1000, number)
            self.assertEqual([sum(die) for die in cup], [1000, 1000])
            self.assertLessEqual(cup.ranks, 2000)
        self.assertIsNone(deck_with_lead(1000, 999, 999))
        self.assertIs(deck_with_lead(999, 997, -1).is_deck(), True)

    def test_no_lead_is_greater(self):
        chooser = chooser_of(51)
        for _ in range(300):
            a, b = some_dice(chooser, 2, 3, 3)
            won, _, lost = counted(a, b)
            size = abs(won - lost)
            self.assertLessEqual(size, sum(a) * sum(b))
            held_a = [rank for rank in range(3) if a[rank]]
            held_b = [rank for rank in range(3) if b[rank]]
            apart = held_a[0] > held_b[-1] or held_b[0] > held_a[-1]
            self.assertEqual(size == sum(a) * sum(b), apart)

    def test_errors_in_order(self):
        for call in (with_lead, deck_with_lead):
            for value in NO_INTS + (0, -1):
                self.fails(BadNumber, {"name": "first"}, call, value, value, None)
                self.fails(BadNumber, {"name": "second"}, call, 2, value, None)
            for value in NO_INTS + (7, -7, 10 ** 28):
                self.fails(BadNumber, {"name": "number"}, call, 2, 3, value)

    def test_equal_arguments_give_equal_results(self):
        self.assertEqual(with_lead(5, 7, 11), with_lead(5, 7, 11))


if __name__ == "__main__":
    unittest.main()
