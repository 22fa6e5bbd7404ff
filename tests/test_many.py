"""Points 106 to 110, 117 and 120: the greatest and the least of many throws."""

import itertools
import unittest
from fractions import Fraction

from dicewins.cups import Cup
from dicewins.dice import belows, faces, is_like, stands_over
from dicewins.errors import BadDie, BadNumber, BadWord, OtherSize
from dicewins.further import between, closer
from dicewins.many import Greatest, Least, chance_of_two, exchange_gain, greatest_die, least_die, many_cup
from dicewins.pairing import paired_way
from dicewins.tables import table_of
from dicewins.texts import cup_from, cup_text
from dicewins.throws import beats, chance, lead
from dicewins.words import swapped, word_table
from helping import (
    DiceTest, check_die, check_number, chooser_of, faces_of, is_lowest, some_dice, some_die, some_word, worth_of,
)
from test_cups import check_cup
from test_pairing import SMALL
from test_paths import CUP
from test_words import check_own_word

COUNTS = (0, -1, 4001, 10 ** 9)


def throws_told(die, count, pick):
    """The die of the picked face of all rows of throws, one for each row."""
    found = [0] * len(die)
    for row in itertools.product(faces_of(die), repeat=count):
        found[pick(row)] += 1
    return tuple(found)


class ThrowTest(DiceTest):
    def test_all_rows_of_throws(self):
        chooser = chooser_of(551)
        for _ in range(150):
            die = some_die(chooser, chooser.randint(1, 4), 2)
            count = chooser.randint(1, 4 if sum(die) > 4 else 5)
            self.same(greatest_die(list(die), count), throws_told(die, count, max))
            self.same(least_die(list(die), count), throws_told(die, count, min))

    def test_known_ones(self):
        self.same([greatest_die([1, 0, 1], 2), least_die([1, 0, 1], 2)], [(1, 0, 3), (3, 0, 1)])
        self.same([greatest_die((3, 0, 2), 1), least_die((3, 0, 2), 1)], [(3, 0, 2), (3, 0, 2)])
        # dice of one face
        self.same([greatest_die((1,), 4000), least_die((0, 1, 0), 4000)], [(1,), (0, 1, 0)])
        self.same([greatest_die((0, 2), 6), least_die((0, 2), 6)], [(0, 64), (0, 64)])
        self.same(greatest_die((1, 1), 4000), (1, 2 ** 4000 - 1))

    def test_gaps(self):
        chooser = chooser_of(552)
        for _ in range(100):
            die = some_die(chooser, chooser.randint(1, 8), chooser.choice((2, 9, 10 ** 60)))
            for count in (1, 2, 3, 6, 17):
                found = greatest_die(die, count)
                self.same(belows(found), tuple(entry ** count for entry in belows(die)))
                self.assertEqual(faces(found), faces(die) ** count)
                self.same(least_die(die, count), greatest_die(die[::-1], count)[::-1])

    def test_again(self):
        chooser = chooser_of(553)
        for _ in range(60):
            die = some_die(chooser, chooser.randint(1, 5), 3)
            j, k = chooser.randint(1, 6), chooser.randint(1, 6)
            for call in (greatest_die, least_die):
                self.same(call(call(die, k), j), call(die, j * k))

    def test_objects(self):
        die = (2, 0, 1)
        for count in (1, 6, 4000):
            self.same([Greatest(count).count, Least(count).count], [count, count])
            self.same(Greatest(count)(list(die)), greatest_die(die, count))
            self.same(Least(count)(die), least_die(die, count))
        twice = Greatest(2)
        self.same([twice(die), twice((1, 1)), twice(die)], [(4, 0, 5), (1, 3), (4, 0, 5)])

    def test_cups(self):
        chooser = chooser_of(554)
        for _ in range(60):
            cup = Cup(some_dice(chooser, chooser.randint(1, 5), chooser.randint(1, 6), 3))
            count = chooser.randint(1, 6)
            found, low = many_cup(cup, count), many_cup(list(cup), count, least=True)
            self.assertIs(type(found), Cup)
            self.assertIs(type(low), Cup)
            self.same(found.dice, tuple(greatest_die(die, count) for die in cup))
            self.same(low.dice, tuple(least_die(die, count) for die in cup))
            self.assertEqual(many_cup(cup, count, least=False), found)
            self.assertEqual(low, ~many_cup(~cup, count))
        self.assertEqual(many_cup(cup, 1), cup)

    def test_leads(self):
        chooser = chooser_of(555)
        for _ in range(100):
            a, b = some_dice(chooser, 2, chooser.randint(1, 6), 4)
            for k in (1, 2, 5):
                mine, others = [n ** k for n in belows(a)], [n ** k for n in belows(b)]
                told = sum(mine[j + 1] * others[j] - mine[j] * others[j + 1] for j in range(len(a)))
                self.same(lead(greatest_die(a, k), greatest_die(b, k)), told)

    def test_standing_over(self):
        chooser = chooser_of(556)
        seen = []
        for _ in range(500):
            a, b = some_dice(chooser, 2, chooser.randint(1, 4), 3)
            told = stands_over(a, b)
            seen.append(told)
            for k in (2, 5):
                self.assertIs(stands_over(greatest_die(a, k), greatest_die(b, k)), told)
                self.assertIs(stands_over(least_die(a, k), least_die(b, k)), told)
                self.assertTrue(stands_over(greatest_die(a, k + 1), greatest_die(a, k)))
                if told and not is_like(a, b):
                    self.assertTrue(beats(greatest_die(a, k), greatest_die(b, k)))
            chances = [worth_of(chance_of_two(a, k, b, 1)) for k in range(1, 7)]
            self.assertEqual(chances, sorted(chances))
        self.assertGreater(min(seen.count(True), seen.count(False)), 50)

    def test_few_ranks(self):
        chooser = chooser_of(557)
        for _ in range(200):
            a, b = some_dice(chooser, 2, 2, 5)
            signs = {(worth > 0) - (worth < 0) for worth in (lead(greatest_die(a, k), greatest_die(b, k)) for k in (1, 2, 3, 6))}
            self.assertEqual(len(signs), 1)
            cup = many_cup(some_dice(chooser, 3, 3, 4), chooser.randint(1, 6))
            table = table_of(cup)
            for one, two, three in itertools.permutations(range(3)):
                self.assertFalse(table[one][two] > 0 and table[two][three] > 0 and table[three][one] > 0)

    def test_answers_at_every_count(self):
        chooser = chooser_of(558)
        kinds = set()
        for _ in range(200):
            cup = Cup(some_dice(chooser, 3, chooser.randint(2, 4), 3))
            for k in (2, 3, 6):
                more = many_cup(cup, k)
                for one, two in itertools.permutations(range(3), 2):
                    there = between(cup, one, two) is not None
                    self.assertEqual(between(more, one, two) is not None, there)
                if all(beats(row[0], row[1]) and beats(row[1], row[2]) for row in (cup, more)):
                    kinds.add(closer(cup) is None)
                    self.assertEqual(closer(more) is None, closer(cup) is None)
                if beats(cup[0], cup[1]) and beats(more[1], more[0]):
                    self.assertTrue(between(cup, 0, 1) is not None and between(cup, 1, 0) is not None)
        self.assertEqual(kinds, {True, False})

    def test_odd_tables(self):
        chooser = chooser_of(559)
        for _ in range(30):
            word = some_word(chooser, 3, 9)
            if all(word.count(letter) % 2 for letter in range(3)):
                for k in (1, 2, 3, 5):
                    table = table_of(many_cup(Cup.of_word(word, 3), k))
                    self.assertTrue(all(table[i][j] % 2 for i in range(3) for j in range(3) if i != j))

    def test_greatest(self):
        chooser = chooser_of(560)
        cup = Cup(some_dice(chooser, 10, 300, 6))
        found = self.ends_soon(10, many_cup, cup, 4000)
        self.assertEqual(faces(found[3]), faces(cup[3]) ** 4000)
        self.ends_soon(10, lambda: many_cup(cup, 4000, least=True))
        self.ends_soon(10, chance_of_two, cup[0], 4000, cup[1], 3999)
        self.ends_soon(5, lead, found[0], found[1])
        self.ends_soon(5, beats, found[2], found[9])
        great = Cup(some_dice(chooser, 40, 4000, 10 ** 60))
        self.assertEqual(self.ends_soon(20, many_cup, great, 6).many, 40)
        small = many_cup(some_dice(chooser, 3, 6, 9), 400)
        self.assertEqual(cup_from(self.ends_soon(5, cup_text, small)), small)

    def test_errors(self):
        for call in (greatest_die, least_die):
            check_die(self, lambda value: call(value, 0))
            check_number(self, "count", COUNTS, lambda value: call((1, 0), value))
        for kind in (Greatest, Least):
            check_number(self, "count", COUNTS, kind)
            check_die(self, kind(3))
        check_cup(self, lambda value: many_cup(value, 0))
        check_cup(self, lambda value: many_cup(value, None, least=True))
        check_number(self, "count", COUNTS, lambda value: many_cup(CUP, value))
        check_number(self, "count", COUNTS, lambda value: many_cup(CUP, value, least=True))


class TwoTest(DiceTest):
    def test_counted(self):
        chooser = chooser_of(561)
        for _ in range(150):
            a, b = some_dice(chooser, 2, chooser.randint(1, 4), 2)
            k, m = chooser.randint(1, 3), chooser.randint(1, 3)
            found = chance_of_two(list(a), k, b, m)
            self.assertTrue(is_lowest(found))
            rows = list(itertools.product(itertools.product(faces_of(a), repeat=k), itertools.product(faces_of(b), repeat=m)))
            self.assertEqual(worth_of(found), Fraction(sum(max(one) > max(two) for one, two in rows), len(rows)))
            self.same(chance_of_two(a, 1, b, 1), chance(a, b))

    def test_known_ones(self):
        self.same([chance_of_two([1, 0, 1], 2, [0, 1, 0], 1), chance_of_two([0, 1, 0], 1, [1, 0, 1], 2)], [(3, 4), (1, 4)])
        self.same(chance_of_two((1,), 4000, (3,), 2), (0, 1))

    def test_errors(self):
        check_die(self, lambda value: chance_of_two(value, 0, None, 0))
        check_number(self, "count", COUNTS, lambda value: chance_of_two((1, 0), value, None, 0))
        check_die(self, lambda value: chance_of_two((1, 0), 2, value, 0))
        check_number(self, "other", COUNTS, lambda value: chance_of_two((1, 0), 2, (1, 0, 0), value))
        self.fails(OtherSize, {"first": 2, "second": 3}, chance_of_two, (1, 0), 2, (1, 0, 0), 3)
        self.fails(BadDie, {"place": -1}, chance_of_two, (1, 0), 2, (0, 0, 0), None)


class ExchangeTest(DiceTest):
    def test_gains(self):
        chooser = chooser_of(562)
        for _ in range(150):
            many = chooser.randint(2, 4)
            word = some_word(chooser, many, chooser.randint(many, 9))
            places = [at for at in range(len(word) - 1) if word[at] != word[at + 1]]
            if not places:
                continue
            at, count = chooser.choice(places), chooser.randint(1, 6)
            a, b = word[at], word[at + 1]
            before = table_of(many_cup(Cup.of_word(word, many), count))
            after = table_of(many_cup(Cup.of_word(swapped(word, at), many), count))
            gain = exchange_gain(list(word), at, count)
            self.assertIs(type(gain), int)
            self.assertGreater(gain, 0)
            for i, j in itertools.product(range(many), repeat=2):
                step = gain if (i, j) == (a, b) else -gain if (i, j) == (b, a) else 0
                self.assertEqual(after[i][j] - before[i][j], step)
            self.same(exchange_gain(word, at, 1), 2)

    def test_along_a_way(self):
        chooser = chooser_of(563)
        for _ in range(40):
            many = chooser.randint(2, 3)
            word = some_word(chooser, many, chooser.randint(many + 1, 9))
            first = word
            total = {}
            for _ in range(8):
                places = [at for at in range(len(word) - 1) if word[at] != word[at + 1]]
                at = chooser.choice(places)
                gain = exchange_gain(word, at, 3)
                total[word[at], word[at + 1]] = total.get((word[at], word[at + 1]), 0) + gain
                word = swapped(word, at)
            old, new = (table_of(many_cup(Cup.of_word(row, many), 3)) for row in (first, word))
            for a, b in itertools.permutations(range(many), 2):
                self.assertEqual(new[a][b] - old[a][b], total.get((a, b), 0) - total.get((b, a), 0))

    def test_known_ones(self):
        self.same([exchange_gain([0, 1, 0, 1], 2, 1), exchange_gain([0, 1, 0, 1], 2, 2)], [2, 18])
        # no letter stands ahead
        self.same([exchange_gain((0, 1), 0, count) for count in (1, 6, 4000)], [2, 2, 2])
        self.same(exchange_gain((0, 0, 1), 1, 4000), 2 * (2 ** 4000 - 1))
        self.same(exchange_gain((2, 2, 1, 0), 1, 2), 6)

    def test_greatest(self):
        word = [0, 1] * 200
        self.assertGreater(self.ends_soon(2, exchange_gain, word, 398, 4000), 0)

    def test_fours(self):
        for word in SMALL:
            p = word.count(0) * word.count(1)
            first = word_table(word, 2)[0][1]
            for k in (1, 2, 3, 6):
                found = table_of(many_cup(Cup.of_word(word, 2), k))[0][1]
                self.assertEqual((found - first - (p ** k - p)) % 4, 0)
        chooser = chooser_of(564)
        moved = 0
        for _ in range(300):
            word = chooser.choice([row for row in SMALL if len(row) == 8])
            other = list(word)
            chooser.shuffle(other)
            way = paired_way(word, other) or [word]
            leads = [table_of(many_cup(Cup.of_word(row, 2), 2))[0][1] for row in way]
            self.assertTrue(all((a - b) % 4 == 0 for a, b in zip(leads, leads[1:])))
            moved += len(way) > 1
        self.assertGreater(moved, 20)

    def test_errors(self):
        check_own_word(self, lambda value: exchange_gain(value, None, 0))
        check_number(self, "at", (-1, 2, 3, 0), lambda value: exchange_gain((1, 1, 0), value, 0))
        self.fails(BadNumber, {"name": "at"}, exchange_gain, (0,), 0, 1)
        check_number(self, "count", COUNTS, lambda value: exchange_gain((1, 1, 0), 1, value))
        self.fails(BadWord, {"place": -2}, exchange_gain, [1, 1, 2], 1, 2)


if __name__ == "__main__":
    unittest.main()
