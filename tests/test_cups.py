"""Points 10 to 12: cups, and the cups made of them."""

import unittest

from dicewins.cups import Cup, stacked
from dicewins.dice import faces
from dicewins.errors import BadCup, BadDie, BadNumber, BadSet, BadWeights, BadWord, OtherSize
from dicewins.tables import table_of
from dicewins.throws import half_chance, lead, ties, wins
from helping import NO_INTS, NO_ROWS, DiceTest, chooser_of, some_dice, some_word

NO_CUPS = NO_ROWS + ((), [])
PAIR = [(2, 0), (1, 1)]


def check_cup(test, call):
    """The call raises BadCup for what is no cup."""
    for value in NO_CUPS:
        test.fails(BadCup, {"place": -1}, call, value)
    for value in NO_ROWS + (Cup([(1,)]), (), (0, 0), (1, -1), (1, True), (1, 0, 0), (1,)):
        test.fails(BadCup, {"place": 1}, call, [(1, 0), value, (0, 0)])
    test.fails(BadCup, {"place": 0}, call, [(0, 0), (1, 0)])
    test.fails(BadCup, {"place": 2}, call, ((1, 0), [0, 1], (1.0, 0)))


class MakeTest(DiceTest):
    def test_attributes(self):
        cup = Cup([[2, 0, 1], (0, 0, 10 ** 60)])
        self.same([cup.dice, cup.ranks, cup.many], [((2, 0, 1), (0, 0, 10 ** 60)), 3, 2])
        self.same([Cup.SIGN, cup.SIGN], ["cup", "cup"])
        self.same([Cup(((1,),)).dice, Cup([[5]]).ranks, Cup([[5]]).many], [((1,),), 1, 1])

    def test_from_a_cup(self):
        cup = Cup(PAIR)
        self.same(Cup(cup).dice, ((2, 0), (1, 1)))
        self.same(Cup.checked(cup), ((2, 0), (1, 1)))
        self.same(Cup.checked([[2, 0], [1, 1]]), ((2, 0), (1, 1)))

    def test_keeps_nothing_that_was_passed(self):
        rows = [[2, 0], [1, 1]]
        cup = Cup(rows)
        rows[0][0] = 9
        rows.append([1, 0])
        self.same(cup.dice, ((2, 0), (1, 1)))

    def test_what_is_no_cup(self):
        check_cup(self, Cup)
        check_cup(self, Cup.checked)

    def test_listed_methods_stand_in_the_class(self):
        for name in (
            "__init__", "__len__", "__getitem__", "__iter__", "__eq__", "__contains__", "__add__", "__invert__",
            "__mul__", "of_word", "checked", "taken", "with_die", "spread", "scaled", "wide", "is_deck", "many",
        ):
            self.assertIn(name, vars(Cup))


class RowTest(DiceTest):
    def test_length_items_and_order(self):
        cup = Cup(PAIR)
        self.same([len(cup), cup[0], cup[1], list(cup)], [2, (2, 0), (1, 1), [(2, 0), (1, 1)]])
        for at in NO_INTS + (-1, 2, slice(0, 1), "die"):
            self.fails(BadNumber, {"name": "die"}, lambda: cup[at])

    def test_equal(self):
        cup = Cup(PAIR)
        self.assertIs(cup == Cup(((2, 0), [1, 1])), True)
        for other in (Cup([(1, 1), (2, 0)]), Cup([(2, 0)]), PAIR, ((2, 0), (1, 1)), None, 3):
            self.assertIs(cup == other, False)
            self.assertIs(cup != other, True)

    def test_contains(self):
        cup = Cup(PAIR)
        for row in ((2, 0), [2, 0], [1, 1]):
            self.assertIs(row in cup, True)
        others = ((0, 2), (4, 0), (2,), (), 2, None, (True, True), (1.0, 1), [2, 0.0], ("2", 0), [[2], 0], cup)
        for row in others + NO_ROWS:
            self.assertIs(row in cup, False)


class PutTogetherTest(DiceTest):
    def test_stacked(self):
        one, two, three = Cup(PAIR), [[0, 3, 1], (1, 0, 0)], Cup([(1,), (2,)])
        self.same(stacked(one, two, three).dice, ((2, 0, 0, 3, 1, 1), (1, 1, 1, 0, 0, 2)))
        self.assertEqual(stacked(one), one)
        self.assertEqual(stacked(PAIR), one)
        self.assertEqual(one + two, stacked(one, two))
        self.assertEqual((one + two) + three, one + (Cup(two) + three))
        self.assertEqual(~(one + two), ~Cup(two) + ~one)

    def test_wrong_stacks(self):
        self.fails(BadCup, {"place": -1}, stacked)
        check_cup(self, stacked)
        check_cup(self, lambda value: stacked(PAIR, value, [(1,)]))
        check_cup(self, lambda value: Cup(PAIR) + value)
        self.fails(OtherSize, {"first": 2, "second": 1}, stacked, PAIR, PAIR, [(1,)], [(1,), (1,), (1,)])
        self.fails(OtherSize, {"first": 2, "second": 3}, lambda: Cup(PAIR) + [(1,)] * 3)
        self.fails(BadCup, {"place": 0}, stacked, [(1,)], PAIR, [(0,)])

    def test_turned(self):
        self.same((~Cup([(2, 0, 1), (0, 0, 5)])).dice, ((1, 0, 2), (5, 0, 0)))
        self.same((~Cup([(7,)])).dice, ((7,),))

    def test_times(self):
        self.same((Cup(PAIR) * 3).dice, ((6, 0), (3, 3)))
        self.assertEqual(Cup(PAIR) * 1, Cup(PAIR))
        for value in NO_INTS + (0, -1):
            self.fails(BadNumber, {"name": "times"}, lambda: Cup(PAIR) * value)

    def test_spread(self):
        self.same(Cup([(2, 0, 1), (0, 1, 0)]).spread(3).dice, ((2, 2, 2, 0, 0, 0, 1, 1, 1), (0, 0, 0, 1, 1, 1, 0, 0, 0)))
        self.assertEqual(Cup(PAIR).spread(1), Cup(PAIR))
        for value in NO_INTS + (0, -1):
            self.fails(BadNumber, {"name": "times"}, Cup(PAIR).spread, value)

    def test_scaled(self):
        self.same(Cup(PAIR).scaled([3, 10 ** 60]).dice, ((6, 0), (10 ** 60, 10 ** 60)))
        for value in NO_ROWS + ((), (1,), (1, 1, 1)):
            self.fails(BadWeights, {"place": -1}, Cup(PAIR).scaled, value)
        for value in NO_INTS + (0, -1):
            self.fails(BadWeights, {"place": 1}, Cup(PAIR).scaled, (1, value))
            self.fails(BadWeights, {"place": 0}, Cup(PAIR).scaled, (value, value))

    def test_wide(self):
        self.same(Cup([(2, 0, 1)]).wide().dice, ((0, 2, 0, 0, 0, 1, 0),))
        self.same(Cup([(4,), (1,)]).wide().dice, ((0, 4, 0), (0, 1, 0)))

    def test_taken(self):
        cup = Cup([(1, 0), (0, 1), (1, 1)])
        self.same(cup.taken([2, 0]).dice, ((1, 1), (1, 0)))
        self.same(cup.taken((1,)).dice, ((0, 1),))
        for value in NO_ROWS + ((), []):
            self.fails(BadSet, {"place": -1}, cup.taken, value)
        for value in NO_INTS + (-1, 3, 0):
            self.fails(BadSet, {"place": 1}, cup.taken, [0, value])

    def test_with_die(self):
        self.same(Cup(PAIR).with_die([0, 7]).dice, ((2, 0), (1, 1), (0, 7)))
        self.fails(BadDie, {"place": -1}, Cup(PAIR).with_die, (0, 0, 0))
        self.fails(BadDie, {"place": 1}, Cup(PAIR).with_die, (0, True))
        self.fails(OtherSize, {"first": 2, "second": 3}, Cup(PAIR).with_die, (0, 0, 1))

    def test_results_are_cups(self):
        cup = Cup(PAIR)
        for found in (
            ~cup, cup + cup, cup * 2, cup.spread(2), cup.scaled([1, 2]), cup.wide(), cup.taken([0]),
            cup.with_die([0, 1]), Cup.of_word([0], 1), stacked(PAIR),
        ):
            self.assertIs(type(found), Cup)
        self.same(cup.dice, ((2, 0), (1, 1)))


class WordTest(DiceTest):
    def test_of_word(self):
        self.same(Cup.of_word([0, 1, 1, 0], 2).dice, ((1, 0, 0, 1), (0, 1, 1, 0)))
        self.same(Cup.of_word((0,), 1).dice, ((1,),))
        self.same(Cup.of_word((0, 0), 1).dice, ((1, 1),))

    def test_errors_in_order(self):
        for many in NO_INTS + (0, -1):
            self.fails(BadNumber, {"name": "many"}, Cup.of_word, None, many)
        for value in NO_ROWS:
            self.fails(BadWord, {"place": -1}, Cup.of_word, value, 2)
        for value in NO_INTS + (-1, 2):
            self.fails(BadWord, {"place": 1}, Cup.of_word, [0, value, 5], 2)
        for word in ([], (0, 0), (1, 1)):
            self.fails(BadWord, {"place": -2}, Cup.of_word, word, 2)
        self.fails(BadWord, {"place": -2}, Cup.of_word, (0, 1), 10 ** 28)

    def test_decks(self):
        chooser = chooser_of(21)
        for _ in range(50):
            many = chooser.randint(1, 4)
            self.assertIs(Cup.of_word(some_word(chooser, many, many + 4), many).is_deck(), True)
        for dice, found in (
            ([(1, 0), (0, 3)], True), ([(1, 1), (0, 3)], False), ([(4, 4)], True), ([(0, 1, 0), (2, 0, 0)], True),
            ([(1,), (1,)], False), ([(1, 0, 0), (0, 0, 1), (0, 1, 1)], False),
        ):
            self.assertIs(Cup(dice).is_deck(), found)


class LeadTest(DiceTest):
    """Point 12."""

    def test_made_cups(self):
        chooser = chooser_of(22)
        for _ in range(60):
            cup = Cup(some_dice(chooser, 2, chooser.randint(1, 4), 3))
            a, b = cup.dice
            k, r, s = (chooser.randint(1, 4) for _ in range(3))
            self.assertEqual(wins(*~cup), wins(b, a))
            self.assertEqual(ties(*~cup), ties(a, b))
            self.assertEqual(lead(*~cup), -lead(a, b))
            self.assertEqual(lead(*cup.spread(k)), k * k * lead(a, b))
            self.assertEqual(ties(*cup.spread(k)), k * ties(a, b))
            self.assertEqual(half_chance(*cup.spread(k)), half_chance(a, b))
            self.assertEqual([call(*cup.wide()) for call in (wins, ties, lead)], [wins(a, b), ties(a, b), lead(a, b)])
            self.assertEqual(
                [call(*cup.scaled([r, s])) for call in (wins, ties, lead)],
                [r * s * wins(a, b), r * s * ties(a, b), r * s * lead(a, b)],
            )

    def test_stacked_tables(self):
        chooser = chooser_of(23)
        for _ in range(60):
            c, d = (some_dice(chooser, 3, chooser.randint(1, 4), 3) for _ in range(2))
            mine, others, found = table_of(c), table_of(d), table_of(stacked(c, d))
            for i in range(3):
                for j in range(3):
                    more = faces(d[i]) * faces(c[j]) - faces(c[i]) * faces(d[j])
                    self.assertEqual(found[i][j], mine[i][j] + others[i][j] + more)


if __name__ == "__main__":
    unittest.main()
