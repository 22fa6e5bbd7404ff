"""Point 148: listings."""

import types
import unittest

from dicewins.cups import Cup
from dicewins.desks import Desk
from dicewins.listing import lead_square, leads_on, listing
from dicewins.many import many_cup
from dicewins.tables import table_of
from dicewins.throws import lead
from helping import DiceTest, chooser_of, some_dice
from test_cups import check_cup
from test_desks import RING


def lines_told(dice):
    """The lines of a cup, by their words."""
    lines = []
    for number, die in enumerate(dice):
        ranks = " ".join(str(rank) for rank, entry in enumerate(die) if entry)
        lines.append("die " + str(number) + ": faces " + str(sum(die)) + ", ranks " + ranks)
    for i, one in enumerate(dice):
        for k, two in enumerate(dice):
            worth = lead(one, two)
            if i != k and worth > 0:
                lines.append(str(i) + " beats " + str(k) + " by " + str(worth))
            if i < k and worth == 0:
                lines.append(str(i) + " ties " + str(k))
    return lines


class ListingTest(DiceTest):
    def test_cups(self):
        chooser = chooser_of(661)
        for _ in range(200):
            cup = Cup(some_dice(chooser, chooser.randint(1, 5), chooser.randint(1, 6), chooser.choice((1, 3, 10 ** 30))))
            found = listing(cup)
            self.same(found, lines_told(cup.dice))
            found.clear()
            self.same(listing(list(cup)), lines_told(cup.dice))
            self.same(list(leads_on(cup)), [
                (i, k, lead(cup[i], cup[k])) for i in range(cup.many) for k in range(cup.many) if i != k
            ])
            square = lead_square(cup)
            lines = square.split("\n")
            self.same(lines.pop(), "")
            self.same([tuple(map(int, row)) for row in self.parts_of(lines, cup)], list(table_of(cup)))

    def parts_of(self, lines, cup):
        """The leads of each line: 6 places each, or more for a longer one."""
        for line, row in zip(lines, table_of(cup), strict=True):
            parts = []
            for worth in row:
                width = max(6, len(str(worth)))
                part, line = line[:width], line[width:]
                self.assertEqual(part, " " * (width - len(str(worth))) + str(worth))
                parts.append(part)
            self.assertEqual(line, "")
            yield parts

    def test_known_ones(self):
        self.same(listing([[1, 0, 1], [0, 2, 0], [1, 0, 0]]), [
            "die 0: faces 2, ranks 0 2", "die 1: faces 2, ranks 1", "die 2: faces 1, ranks 0", "0 ties 1",
            "0 beats 2 by 1", "1 beats 2 by 2",
        ])
        self.same(listing(RING)[3:], ["0 beats 1 by 1", "1 beats 2 by 1", "2 beats 0 by 1"])
        self.same(listing([(0, 7)]), ["die 0: faces 7, ranks 1"])
        self.same(lead_square(RING), "     0     1    -1\n    -1     0     1\n     1    -1     0\n")
        self.same(lead_square([(3,)]), "     0\n")
        self.same(lead_square([(0, 1), (99999, 0)]), "     0 99999\n-99999     0\n")
        self.same(lead_square([(0, 1), (123456, 0)]), "     0123456\n-123456     0\n")

    def test_one_after_another(self):
        found = leads_on([(1, 0), (0, 1)])
        self.assertIsInstance(found, types.GeneratorType)
        self.same([next(found), next(found), next(found, None)], [(0, 1, -1), (1, 0, 1), None])
        self.same(list(leads_on([(4,)])), [])

    def test_desk(self):
        desk = Desk(RING)
        self.same(listing(desk.cup_now), lines_told(RING))

    def test_greatest(self):
        chooser = chooser_of(662)
        cup = Cup(some_dice(chooser, 40, 200, 10 ** 490))
        for call in (listing, lead_square):
            self.assertTrue(self.ends_soon(5, call, cup))
        more = many_cup(Cup(some_dice(chooser, 4, 20, 10 ** 70)), 6)
        self.same(self.ends_soon(5, listing, more), lines_told(more.dice))
        wide = Cup(some_dice(chooser, 40, 4000, 9))
        self.assertEqual(self.ends_soon(10, lead_square, wide).count("\n"), 40)
        self.assertGreater(len(self.ends_soon(10, listing, wide)), 40)

    def test_errors(self):
        for call in (listing, lead_square, lambda value: next(leads_on(value))):
            check_cup(self, call)
        # nothing is looked at before the first tuple is asked for
        self.assertIsInstance(leads_on(None), types.GeneratorType)


if __name__ == "__main__":
    unittest.main()
