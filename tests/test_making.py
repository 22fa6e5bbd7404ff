"""Points 16 to 20: cups and decks for tables."""

import itertools
import unittest

from dicewins.cups import Cup
from dicewins.dice import faces
from dicewins.making import cup_for, deck_beside, deck_for, even_deck_for, faces_needed, odd_lot
from dicewins.tables import pair_entries, table_of, table_times
from dicewins.throws import half_chance
from helping import DiceTest, chooser_of, counted_table, some_dice, some_table, some_word
from test_cups import check_cup
from test_tables import check_tables


def lot_of(table):
    """The odd lot by the words of point 17."""
    lot = tuple(i for i, row in enumerate(table) if any(entry % 2 for entry in row))
    if all(table[i][j] % 2 for i in lot for j in lot if i != j):
        return lot
    return None


def small_tables():
    """Many small tables: all with 1 or 2 dice and small entries, many with up to 6 dice."""
    found = [((0,),)]
    found.extend(((0, number), (-number, 0)) for number in range(-30, 31))
    for a, b, c in itertools.product(range(-2, 3), repeat=3):
        found.append(((0, a, b), (-a, 0, c), (-b, -c, 0)))
    chooser = chooser_of(61)
    for many in range(1, 7):
        for most in (0, 1, 2, 9, 50):
            for _ in range(6):
                table = some_table(chooser, many, most)
                found.append(table)
                found.append(table_times(table, 2))
                # all odd above the diagonal
                found.append(tuple(
                    tuple(2 * e + (i < j) - (j < i) for j, e in enumerate(row)) for i, row in enumerate(table)
                ))
                # odd between the dice of one lot alone
                lot = chooser.sample(range(many), chooser.randint(0, many))
                found.append(tuple(
                    tuple(2 * e + (i in lot and j in lot) * ((i < j) - (j < i)) for j, e in enumerate(row))
                    for i, row in enumerate(table)
                ))
    return found


class CupForTest(DiceTest):
    def check(self, cup, table):
        """The cup has the table and equal numbers of faces, no more than told."""
        self.assertIs(type(cup), Cup)
        self.assertEqual(table_of(cup), table)
        counts = [faces(die) for die in cup]
        self.assertEqual(counts, [counts[0]] * len(table))
        self.assertLessEqual(counts[0], faces_needed(table))

    def test_tables(self):
        for table in small_tables():
            self.check(cup_for(table), table)

    def test_counted(self):
        for table in small_tables()[:200]:
            self.assertEqual(counted_table(cup_for(table)), table)

    def test_all_zero(self):
        for many in range(1, 7):
            table = ((0,) * many,) * many
            self.check(cup_for(table), table)
            self.same([faces(die) for die in cup_for(table)], [1] * many)

    def test_faces_needed(self):
        for table, needed in (
            (((0,),), 1), (((0, 0), (0, 0)), 1), (((0, 1), (-1, 0)), 2), (((0, -3), (3, 0)), 6),
            (((0, 1, -2), (-1, 0, 3), (2, -3, 0)), 12),
        ):
            self.same(faces_needed(table), needed)

    def test_greatest(self):
        for table in (
            ((0, 6000), (-6000, 0)),
            tuple(tuple(400 * ((i < j) - (j < i)) for j in range(6)) for i in range(6)),
            tuple(tuple((i == 0 and j == 5) * 5999 - (i == 5 and j == 0) * 5999 for j in range(6)) for i in range(6)),
        ):
            self.check(self.ends_soon(5, cup_for, table), table)
            for call in (deck_for, even_deck_for):
                deck = self.ends_soon(5, call, table)
                if deck is not None:
                    self.assertEqual(table_of(deck), table)

    def test_no_table(self):
        for call in (cup_for, faces_needed, odd_lot, deck_for, even_deck_for):
            check_tables(self, call)

    def test_argument_stays(self):
        table = [[0, 3], [-3, 0]]
        for call in (cup_for, deck_for, even_deck_for):
            call(table)
        self.assertEqual(table, [[0, 3], [-3, 0]])

    def test_entries_are_at_most_the_product_of_the_faces(self):
        for table in small_tables():
            cup = cup_for(table)
            for i, row in enumerate(table):
                for j, entry in enumerate(row):
                    self.assertLessEqual(abs(entry), faces(cup[i]) * faces(cup[j]))


class OddLotTest(DiceTest):
    def test_odd_lots(self):
        for table in small_tables():
            self.same(odd_lot(table), lot_of(table))
            self.assertTrue(odd_lot(table) is None or len(odd_lot(table)) != 1)

    def test_edges(self):
        self.same(odd_lot(((0,),)), ())
        self.same(odd_lot(((0, 2), (-2, 0))), ())
        self.same(odd_lot([[0, 1], [-1, 0]]), (0, 1))
        self.same(odd_lot(((0, 1, 0), (-1, 0, 1), (0, -1, 0))), None)
        self.same(odd_lot(((0, 0, 1), (0, 0, 0), (-1, 0, 0))), (0, 2))


class DeckForTest(DiceTest):
    def test_decks(self):
        for table in small_tables():
            lot = lot_of(table)
            deck = deck_for(table)
            if lot is None:
                self.assertIsNone(deck)
                continue
            self.assertIs(type(deck), Cup)
            self.assertIs(deck.is_deck(), True)
            self.assertEqual(table_of(deck), table)
            if lot:
                self.assertEqual([faces(die) % 2 for die in deck], [int(i in lot) for i in range(len(table))])

    def test_equal_faces(self):
        for table in small_tables():
            deck = even_deck_for(table)
            if len({entry % 2 for entry in pair_entries(table)}) > 1:
                self.assertIsNone(deck)
                continue
            self.assertIs(type(deck), Cup)
            self.assertIs(deck.is_deck(), True)
            self.assertEqual(table_of(deck), table)
            self.assertEqual(len({faces(die) for die in deck}), 1)

    def test_what_tables_decks_have(self):
        chooser = chooser_of(62)
        for _ in range(200):
            many = chooser.randint(1, 5)
            deck = Cup.of_word(some_word(chooser, many, many + chooser.randint(0, 6)), many)
            lot = odd_lot(table_of(deck))
            self.assertIsNotNone(lot)
            odd = tuple(i for i in range(many) if faces(deck[i]) % 2)
            if lot:
                self.assertEqual(odd, lot)
            else:
                self.assertLessEqual(len(odd), 1)


class BesideTest(DiceTest):
    def test_by_its_words(self):
        self.same(deck_beside([(2, 0), (1, 1)]).dice, ((2, 0, 0, 2, 0, 0), (0, 1, 1, 0, 1, 1)))
        self.same(deck_beside([(3,)]).dice, ((3, 3),))
        self.same(deck_beside([(0, 3, 0, 1)]).dice, ((3, 3, 1, 1),))
        self.same(
            deck_beside([(0, 1), (0, 2), (0, 3)]).dice,
            ((1, 0, 0, 0, 0, 1), (0, 2, 0, 0, 2, 0), (0, 0, 3, 3, 0, 0)),
        )

    def test_properties(self):
        chooser = chooser_of(63)
        for _ in range(60):
            cup = Cup(some_dice(chooser, chooser.randint(1, 4), chooser.randint(1, 4), 3))
            deck = deck_beside(cup)
            self.assertIs(deck.is_deck(), True)
            self.assertEqual([faces(die) for die in deck], [2 * faces(die) for die in cup])
            self.assertEqual(table_of(deck), table_times(table_of(cup), 4))
            for i in range(len(cup)):
                for j in range(len(cup)):
                    if i != j:
                        self.assertEqual(half_chance(deck[i], deck[j]), half_chance(cup[i], cup[j]))

    def test_greatest(self):
        chooser = chooser_of(64)
        for many in (6, 40):
            cup = Cup(some_dice(chooser, many, 24000 // many, 10 ** 60))
            deck = self.ends_soon(10, deck_beside, cup)
            self.assertEqual(self.ends_soon(10, table_of, deck), table_times(table_of(cup), 4))

    def test_great_entries_and_no_cup(self):
        self.same(deck_beside([(10 ** 60,), (1,)]).dice, ((10 ** 60, 0, 0, 10 ** 60), (0, 1, 1, 0)))
        check_cup(self, deck_beside)


if __name__ == "__main__":
    unittest.main()
