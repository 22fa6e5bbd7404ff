"""Points 61, 62 and 65: gains, leads of further dice, and the answers."""

import itertools
import unittest
from fractions import Fraction

from dicewins.cups import Cup
from dicewins.dice import below, faces
from dicewins.errors import BadCup, BadDie, BadKind, BadNumber, BadSet, BadWeights, OtherSize
from dicewins.fewest import thrown_wide
from dicewins.paths import Answer, Barred, Found, at_gaps, gains, leads_over
from dicewins.tables import table_of
from dicewins.throws import lead
from dicewins.weighing import Mix, Weighing
from helping import NO_INTS, NO_ROWS, DiceTest, chooser_of, counted, in_order, some_dice, some_die
from test_cups import check_cup

CUP = Cup([(2, 1), (1, 2), (0, 3)])


def some_cup(chooser, most_dice=4, most_ranks=4, most=3):
    """A small cup, at times with like dice and with one-faced dice."""
    dice = some_dice(chooser, chooser.randint(1, most_dice), chooser.randint(1, most_ranks), most)
    if chooser.random() < 0.2:
        dice.append(tuple(chooser.randint(1, 3) * entry for entry in [chooser.choice(dice)] for entry in entry))
    if chooser.random() < 0.2:
        place = chooser.randrange(len(dice[0]))
        dice[0] = tuple(int(rank == place) for rank in range(len(dice[0])))
    return Cup(dice[:most_dice])


def some_kind(chooser, many):
    """Three sets of dice, the first two not both empty."""
    while True:
        parts = [chooser.choice("STU-") for _ in range(many)]
        sets = [[number for number in range(many) if parts[number] == part] for part in "STU"]
        if sets[0] or sets[1]:
            for part in sets:
                chooser.shuffle(part)
            return sets


def is_of_kind(cup, kind, die):
    """True if the further die is of the kind, by its words."""
    leads = [lead(die, other) for other in cup.wide()]
    return (
        all(leads[number] > 0 for number in kind[0]) and all(leads[number] < 0 for number in kind[1])
        and all(leads[number] == 0 for number in kind[2])
    )


def is_bar_told(cup, kind, weights):
    """True if the weights are a bar against the kind, by its words."""
    for number, weight in enumerate(weights):
        if number not in kind[0] + kind[1] + kind[2] and weight != 0:
            return False
    asked = [weights[number] for number in kind[0] + kind[1]]
    if any(weight < 0 for weight in asked) or not any(asked):
        return False
    for gap in range(cup.ranks + 1):
        upper = sum(weights[number] * below(cup[number], gap) for number in kind[0] + kind[2])
        lower = sum(weights[number] * below(cup[number], gap) for number in kind[1])
        if upper > lower or gap == cup.ranks and upper != lower:
            return False
    return True


def check_gap_die(test, cup, die):
    """It is a further die for the cup, a tuple with faces at gaps alone."""
    test.assertIs(type(die), tuple)
    test.assertEqual(len(die), 2 * cup.ranks + 1)
    test.assertTrue(all(type(entry) is int and entry >= 0 for entry in die) and any(die))
    test.assertFalse(any(die[1::2]))


class GainTest(DiceTest):
    def test_by_their_words(self):
        chooser = chooser_of(301)
        for _ in range(200):
            cup = some_cup(chooser)
            found = gains(cup)
            told = tuple(
                tuple(2 * below(die, gap) - faces(die) for die in cup) for gap in range(cup.ranks + 1)
            )
            self.same(found, told)
            self.same(gains(list(cup)), told)
            for gap, row in enumerate(found):
                one = tuple(int(rank == 2 * gap) for rank in range(2 * cup.ranks + 1))
                self.assertEqual(row, tuple(lead(one, die) for die in cup.wide()))

    def test_known_ones(self):
        self.same(gains([(1, 0, 1), (0, 2, 0)]), ((-2, -2), (0, -2), (0, 2), (2, 2)))
        self.same(gains([(3,)]), ((-3,), (3,)))
        check_cup(self, gains)


class LeadsTest(DiceTest):
    def test_counted(self):
        chooser = chooser_of(302)
        for _ in range(200):
            cup = some_cup(chooser)
            die = some_die(chooser, 2 * cup.ranks + 1, 2)
            told = []
            for other in cup:
                won, _, lost = counted(die, [0] + [entry for each in other for entry in (each, 0)])
                told.append(won - lost)
            self.same(leads_over(cup, die), tuple(told))
            self.same(leads_over(list(cup), list(die)), tuple(told))
            # a face at a rank of the cup counts as half of each gap beside it
            rows = gains(cup)
            for rank in range(cup.ranks):
                one = tuple(int(place == 2 * rank + 1) for place in range(2 * cup.ranks + 1))
                self.assertEqual(leads_over(cup, one), tuple((a + b) // 2 for a, b in zip(rows[rank], rows[rank + 1])))

    def test_a_mean_of_the_gains(self):
        chooser = chooser_of(303)
        for _ in range(100):
            cup = some_cup(chooser)
            die = at_gaps(some_die(chooser, 2 * cup.ranks + 1, 3))
            for number, found in enumerate(leads_over(cup, die)):
                told = sum(count * row[number] for count, row in zip(die[::2], gains(cup)))
                self.assertEqual(Fraction(found, sum(die)), Fraction(told, sum(die)))

    def test_at_gaps(self):
        chooser = chooser_of(304)
        for _ in range(200):
            cup = some_cup(chooser)
            die = some_die(chooser, 2 * cup.ranks + 1, 3)
            found = at_gaps(die)
            check_gap_die(self, cup, found)
            self.assertEqual(sum(found), 2 * sum(die))
            self.assertEqual(leads_over(cup, found), tuple(2 * entry for entry in leads_over(cup, die)))

    def test_each_face_at_gaps(self):
        self.same(at_gaps((0, 0, 0, 1, 1, 0, 0)), (0, 0, 1, 0, 3, 0, 0))
        self.same(at_gaps([1, 0, 0]), (2, 0, 0))
        self.same(at_gaps((0, 5, 0)), (5, 0, 5))
        self.same(at_gaps((0, 0, 10 ** 60, 0, 0)), (0, 0, 2 * 10 ** 60, 0, 0))

    def test_errors(self):
        check_cup(self, lambda value: leads_over(value, None))
        for value in NO_ROWS + ((), (0, 0, 0)):
            self.fails(BadDie, {"place": -1}, leads_over, CUP, value)
            self.fails(BadDie, {"place": -1}, at_gaps, value)
        for value in NO_INTS + (-1,):
            self.fails(BadDie, {"place": 1}, leads_over, CUP, (0, value))
            self.fails(BadDie, {"place": 1}, at_gaps, (0, value))
        self.fails(OtherSize, {"first": 5, "second": 2}, leads_over, CUP, (1, 0))
        self.fails(OtherSize, {"first": 3, "second": 1}, leads_over, [(1,)], (1,))
        for die in ((1,), (1, 0), (0, 0, 0, 1)):
            self.fails(BadDie, {"place": -1}, at_gaps, die)


class AnswerTest(DiceTest):
    def test_attributes(self):
        self.same([Answer(5).size, Answer.WORD, Answer(1).WORD], [5, "answer", "answer"])
        self.same(vars(Found([0, 3, 0])), {"die": (0, 3, 0), "size": 3, "number": 1})
        self.same(vars(Found((0, 6, 0), 4)), {"die": (0, 6, 0), "size": 3, "number": 4})
        self.same([Found((0, 6, 1), 3).whole, Found((1,)).whole, Found((5, 0), 7).whole], [2, 1, 0])
        for weights in ([1, -2], (1, -2), Weighing((1, -2))):
            self.same(vars(Barred(5, weights)), {"size": 5, "weights": (1, -2)})
        self.same(Barred(5, Mix((1, 2))).weights, (1, 2))
        self.same([Found.WORD, Found((1,)).WORD, Barred.WORD, Barred(1, (1,)).WORD], ["found", "found", "barred", "barred"])
        for made in (Found((1,)), Barred(1, (1,))):
            self.assertIsInstance(made, Answer)

    def test_keeps_nothing_that_was_passed(self):
        row = [1, 2]
        found, barred = Found(row), Barred(2, row)
        row[0] = 5
        self.same([found.die, barred.weights], [(1, 2), (1, 2)])

    def test_wrong_parts(self):
        for value in NO_INTS + (0, -1):
            self.fails(BadNumber, {"name": "size"}, Answer, value)
            self.fails(BadNumber, {"name": "size"}, Barred, value, None)
            self.fails(BadNumber, {"name": "number"}, Found, (1,), value)
        for value in NO_ROWS + ((), (0, 0)):
            self.fails(BadDie, {"place": -1}, Found, value, 0)
        self.fails(BadDie, {"place": 1}, Found, (1, -1))
        for value in NO_ROWS + ((), []):
            self.fails(BadWeights, {"place": -1}, Barred, 3, value)
        for value in NO_INTS:
            self.fails(BadWeights, {"place": 1}, Barred, 3, (-1, value, None))

    def test_listed_methods_stand_in_the_classes(self):
        for kind in (Answer, Found, Barred):
            self.assertIn("shows", vars(kind))
            self.assertIn("WORD", vars(kind))
            self.assertIn("__init__", vars(kind))
        self.assertIsInstance(vars(Found)["whole"], property)


class ShowsTest(DiceTest):
    def test_dice_of_a_kind(self):
        chooser = chooser_of(305)
        seen = []
        for _ in range(600):
            cup = some_cup(chooser)
            kind = some_kind(chooser, len(cup))
            die = some_die(chooser, 2 * cup.ranks + 1, 2)
            told = is_of_kind(cup, kind, die)
            for rows in (kind, tuple(map(tuple, kind))):
                self.assertIs(Found(die).shows(cup, rows), told)
            self.assertIs(Found(die, 5).shows(list(cup), kind), told)
            self.assertIs(Answer(len(die)).shows(cup, kind), False)
            seen.append(told)
        self.assertGreater(min(seen.count(True), seen.count(False)), 100)

    def test_bars(self):
        chooser = chooser_of(306)
        seen = []
        for _ in range(300):
            cup = some_cup(chooser, 3, 3, 2)
            kind = some_kind(chooser, len(cup))
            for weights in itertools.product((-1, 0, 1, 2), repeat=len(cup)):
                told = is_bar_told(cup, kind, weights)
                self.assertIs(Barred(2 * cup.ranks + 1, weights).shows(cup, kind), told)
                seen.append(told)
        self.assertGreater(min(seen.count(True), seen.count(False)), 100)

    def test_known_bars(self):
        # die 1 stands over die 0, and die 2 over both
        for weights, kind, told in (
            ((1, 1, 0), [[1], [0], []], True), ((1, 1, 0), [[0], [1], []], False), ((1, 1, 0), [[1], [2], []], False),
            ((0, 1, 1), [[2], [1], []], True), ((0, 3, 3), [[2], [1], [0]], True), ((0, 0, 0), [[2], [1], [0]], False),
            ((1, 1, 0), [[1], [], [0]], False), ((-1, 1, 0), [[1], [], [0]], True), ((1, -1, 0), [[0], [], [1]], False),
            ((1, -1, 0), [[], [0], [1]], False), ((1, 1, 0), [[], [0], [1]], True), ((2, 1, 0), [[1], [0], []], False),
        ):
            self.assertIs(Barred(5, weights).shows(CUP, kind), told)

    def check_errors(self, answer):
        """The errors of shows, in order, for an answer of size 5."""
        check_cup(self, lambda value: answer.shows(value, None))
        for value in NO_ROWS + ((), ([0], [1]), [[0], [1], [], []]):
            self.fails(BadSet, {"place": -1}, answer.shows, CUP, value)
        for place in range(3):
            for value in NO_ROWS:
                rows = [[0], [0], [0]]
                rows[place] = value
                self.fails(BadSet, {"place": -1}, answer.shows, CUP, rows)
            for value in NO_INTS + (-1, 3, 1):
                rows = [[0], [0], [0]]
                rows[place] = [1, value]
                self.fails(BadSet, {"place": 1}, answer.shows, CUP, rows)
        self.fails(BadSet, {"place": 2}, answer.shows, CUP, [[0, 1, 5], [5], [5]])
        for rows, die in (
            ([[2, 1], [1], [2]], 1), ([[2], [0], [0, 2]], 0), ([[2], [], [2]], 2), ([[], [1], [1]], 1),
            ([[], [], [0]], -1), ([[], [], []], -1), ([(0, 1, 2), [2, 1], []], 1),
        ):
            self.fails(BadKind, {"die": die}, answer.shows, CUP, rows)
        self.fails(BadKind, {"die": -1}, answer.shows, [(1,)], [[], [], []])
        self.fails(OtherSize, {"first": 3, "second": 5}, answer.shows, [(1,), (1,), (2,)], [[0], [1], []])
        self.fails(BadCup, {"place": 1}, answer.shows, [(1, 0), (0, 0)], [[7], [1], []])

    def test_errors(self):
        for answer in (Answer(5), Found((0, 0, 1, 0, 0)), Barred(5, (1, 2, 0)), Barred(5, (1,))):
            self.check_errors(answer)
        self.fails(OtherSize, {"first": 3, "second": 2}, Barred(5, (1, 2)).shows, CUP, [[0], [1], []])
        self.fails(OtherSize, {"first": 5, "second": 7}, Barred(7, (1, 2)).shows, CUP, [[0], [1], []])

    def test_what_was_returned(self):
        cup = thrown_wide(in_order(6, 10 ** 6), [10 ** 12] * 5 + [1]).cup
        self.assertEqual(len(self.ends_soon(2, gains, cup)), cup.ranks + 1)
        die = (1,) * (2 * cup.ranks + 1)
        leads = self.ends_soon(2, leads_over, cup, die)
        self.assertEqual(leads, table_of(cup.wide().with_die(die))[-1][:-1])


if __name__ == "__main__":
    unittest.main()
