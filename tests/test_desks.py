"""Points 136 to 145: the desk."""

import itertools
import unittest

from dicewins.closed import closing_place
from dicewins.cups import Cup, stacked
from dicewins.desks import Desk
from dicewins.dice import stands_over
from dicewins.errors import BadCup, BadDie, BadKind, BadNumber, BadWeights, NothingBack, OtherSize
from dicewins.fewest import fewest_ranks
from dicewins.many import many_cup
from dicewins.orders import last_order, settled_count
from dicewins.paths import leads_over
from dicewins.planes import table_rank
from dicewins.single import only_mix
from dicewins.tables import table_of
from dicewins.throws import half_chance, lead
from dicewins.weighing import Mix
from helping import (
    NO_INTS, NO_ROWS, DiceTest, check_die, check_number, chooser_of, digits_of, some_dice, some_die, some_word, worth_of,
)
from test_cups import check_cup
from test_weighing import check_mix

RING = [[0, 1, 0, 1, 0, 0, 0, 0, 1], [1, 0, 0, 0, 0, 1, 0, 1, 0], [0, 0, 1, 0, 1, 0, 1, 0, 0]]
GREAT = 10 ** 360


def some_cup(chooser, most_dice=4, most_ranks=5, most=3):
    """A small cup."""
    return Cup(some_dice(chooser, chooser.randint(1, most_dice), chooser.randint(1, most_ranks), most))


def some_deed(chooser, cup):
    """The name of a deed that can be done to the cup, and its arguments."""
    name = chooser.choice(("put", "drop", "raise_face", "stack_on", "blend", "throw_many", "scale", "turn_round"))
    if name == "put" and cup.many < 6:
        return name, some_die(chooser, cup.ranks, 3)
    if name == "drop" and cup.many > 1:
        return name, chooser.randrange(cup.many)
    held = [(k, rank) for k, die in enumerate(cup) for rank in range(cup.ranks - 1) if die[rank]]
    if name == "raise_face" and held:
        return (name,) + chooser.choice(held)
    if name == "stack_on" and cup.ranks < 30:
        return name, some_dice(chooser, cup.many, chooser.randint(1, 3), 3)
    if name == "blend" and cup.many < 6:
        return name, some_die(chooser, cup.many, 3)
    if name == "throw_many" and max(map(sum, cup)) < 1000:
        return name, chooser.randint(1, 3)
    if name == "scale" and max(map(sum, cup)) < 10 ** 6:
        return name, [chooser.randint(1, 3) for _ in cup]
    return ("turn_round",)


def deed_told(cup, name, *told):
    """The cup after a deed and its news, by their words."""
    dice = list(cup)
    if name == "put":
        new = Cup(dice + [tuple(told[0])])
        ranks = fewest_ranks(table_of(new)) - fewest_ranks(table_of(cup))
        return new, {"dice": cup.many + 1, "leads": tuple(lead(told[0], die) for die in dice), "ranks": ranks}
    if name == "drop":
        return Cup(dice[:told[0]] + dice[told[0] + 1:]), {"dice": cup.many - 1}
    if name == "raise_face":
        row = list(dice[told[0]])
        row[told[1]] -= 1
        row[told[1] + 1] += 1
        after = Cup(dice[:told[0]] + [row] + dice[told[0] + 1:])
        leads = [new - old for new, old in zip(table_of(after)[told[0]], table_of(cup)[told[0]])]
        return after, {"leads": tuple(leads)}
    if name == "stack_on":
        after = stacked(cup, told[0])
        return after, {"ranks": after.ranks}
    if name == "blend":
        row = [sum(weight * die[rank] for weight, die in zip(told[0], dice)) for rank in range(cup.ranks)]
        return Cup(dice + [row]), {"dice": cup.many + 1, "leads": tuple(lead(row, die) for die in dice)}
    after = ~cup
    if name == "turn_round":
        return after, {}
    after = many_cup(cup, told[0]) if name == "throw_many" else cup.scaled(told[0])
    return after, {"faces": tuple(sum(die) for die in after)}


def deed_done(desk, name, *told):
    """What the deed of this name returns."""
    return getattr(desk, name)(*told)


def answers_of(desk):
    """All that a desk says of its cup."""
    numbers = list(range(len(desk.cup_now)))
    mix = desk.lone_mix()
    found = [desk.cup_now.dice, desk.table_now(), desk.ranks_needed(), mix and mix.entries, desk.settled_now(), desk.find_order()]
    found.append(desk.ring_place(numbers + [0]))
    for a, b in itertools.permutations(numbers, 2):
        if desk.table_now()[a][b] > 0:
            found.append(desk.third(a, b))
    return found


class DeedTest(DiceTest):
    def test_sequences(self):
        chooser = chooser_of(631)
        names = set()
        for _ in range(60):
            desk = Desk(some_cup(chooser))
            cups = [desk.cup_now]
            for _ in range(12):
                deed = some_deed(chooser, cups[-1])
                names.add(deed[0])
                cup, news = deed_told(cups[-1], *deed)
                found = deed_done(desk, *deed)
                self.same(found, news)
                self.same(list(found), list(news))
                self.assertIs(type(desk.cup_now), Cup)
                self.assertEqual(desk.cup_now, cup)
                cups.append(cup)
                self.same([desk.done, desk.mark], [len(cups) - 1] * 2)
                if chooser.random() < 0.3:
                    place = chooser.randint(0, len(cups) - 1)
                    cups = cups[:place + 1]
                    self.assertEqual(desk.to_mark(place), cups[-1])
                elif chooser.random() < 0.3:
                    cups.pop()
                    self.assertEqual(desk.back(), cups[-1])
        self.assertEqual(len(names), 8)

    def test_asked_anew(self):
        chooser = chooser_of(632)
        for _ in range(40):
            desk = Desk(some_cup(chooser))
            for _ in range(4):
                deed_done(desk, *some_deed(chooser, desk.cup_now))
            other = Desk(desk.cup_now)
            self.same(answers_of(desk), answers_of(other))
            # no question changes the desk
            self.same([desk.done, other.done], [4, 0])
            deed = some_deed(chooser, desk.cup_now)
            self.same(deed_done(desk, *deed), deed_done(other, *deed))
            self.assertEqual(desk.cup_now, other.cup_now)

    def test_news_are_new(self):
        desk = Desk(RING)
        news = desk.drop(0)
        news["dice"] = 99
        self.same([desk.turn_round(), desk.drop(1)], [{}, {"dice": 1}])
        self.assertIsNot(desk.turn_round(), desk.turn_round())

    def test_known_ones(self):
        desk = Desk(RING[:2])
        self.same(desk.put(RING[2]), {"dice": 3, "leads": (1, -1), "ranks": 2})
        self.same([desk.lone_mix().entries, desk.done], [(1, 1, 1), 1])
        desk = Desk([[0, 1], [1, 0]])
        self.same([desk.ranks_needed(), desk.blend([1, 1]), desk.cup_now.dice, desk.ranks_needed()],
                  [2, {"dice": 3, "leads": (-1, 1)}, ((0, 1), (1, 0), (1, 1)), 2])
        self.same(desk.blend(Mix((0, 2, 0))), {"dice": 4, "leads": (-2, 0, -2)})
        self.same(desk.drop(1), {"dice": 3})
        self.same(desk.cup_now.dice, ((0, 1), (1, 1), (2, 0)))
        self.same([desk.raise_face(2, 0), desk.raise_face(2, 0)], [{"leads": (1, 2, 0)}] * 2)
        self.same(desk.cup_now.dice, ((0, 1), (1, 1), (0, 2)))
        self.same(desk.stack_on(desk.cup_now), {"ranks": 4})
        self.same(desk.scale((1, 10, 2)), {"faces": (2, 40, 8)})
        self.same(desk.throw_many(6), {"faces": (2 ** 6, 40 ** 6, 8 ** 6)})
        self.same(Desk([(3,)]).throw_many(1), {"faces": (3,)})

    def test_raised_and_taken_back(self):
        desk = Desk(RING)
        first = desk.cup_now
        for _ in range(3):
            desk.raise_face(0, 1)
            self.same(desk.back(), desk.cup_now)
            self.assertEqual(desk.cup_now, first)
        desk.raise_face(0, 1)
        self.same([desk.cup_now[0], first[0]], [(0, 0, 1, 1, 0, 0, 0, 0, 1), tuple(RING[0])])

    def test_own_lists(self):
        rows = [[1, 0, 1], [0, 2, 0]]
        desk = Desk(rows)
        rows[0][0] = 9
        die = [0, 0, 4]
        desk.put(die)
        die[0] = 7
        other = [[1], [1], [1]]
        desk.stack_on(other)
        other[0][0] = 5
        row = [1, 1, 2]
        desk.scale(row)
        row[0] = 0
        self.same(desk.cup_now.dice, ((1, 0, 1, 1), (0, 2, 0, 1), (0, 0, 8, 2)))
        found = desk.settled_now()
        found[1].clear()
        self.same(len(desk.settled_now()[1]), 3)

    def test_put_ranks(self):
        # a table all 0: 0, 1 or 3 more; otherwise 0 or 2
        level = [(1, 0, 1), (0, 2, 0), (1, 0, 1)]
        for die, step in (((1, 1, 1), 0), ((0, 0, 1), 1), ((1, 0, 0), 1), ((1, 0, 3), 1)):
            self.same(Desk(level).put(die)["ranks"], step)
        self.same(Desk([(1, 0, 0, 1, 0), (0, 1, 1, 0, 0)]).put((0, 1, 0, 2, 0))["ranks"], 1)
        self.same(Desk([(0, 1, 1, 0), (1, 0, 0, 1)]).put((2, 0, 1, 2)), {"dice": 3, "leads": (1, 0), "ranks": 3})
        mixed = Desk([(0, 0, 1, 1, 0, 0), (1, 0, 0, 0, 0, 1)])
        self.same([mixed.table_now(), mixed.put((0, 1, 0, 0, 0, 0))], [((0, 0), (0, 0)), {"dice": 3, "leads": (-2, 0), "ranks": 3}])
        chooser = chooser_of(633)
        steps = set()
        for _ in range(400):
            cup = some_cup(chooser, 4, 5, 2)
            desk = Desk(cup)
            zero = not any(any(row) for row in desk.table_now())
            news = desk.put(some_die(chooser, cup.ranks, 2))
            leads = news["leads"]
            if zero:
                alike = all(worth > 0 for worth in leads) or all(worth < 0 for worth in leads)
                self.same(news["ranks"], 0 if not any(leads) else 1 if alike else 3)
            else:
                self.assertIn(news["ranks"], (0, 2))
            steps.add((zero, news["ranks"]))
        self.assertTrue({(True, 0), (True, 1), (False, 0), (False, 2)} <= steps)

    def test_blends(self):
        chooser = chooser_of(634)
        for _ in range(80):
            desk = Desk(some_cup(chooser, 4, 6))
            before = [table_rank(desk.table_now()), desk.ranks_needed()]
            for _ in range(2):
                desk.blend(some_die(chooser, len(desk.cup_now), 3))
                self.same([table_rank(desk.table_now()), desk.ranks_needed()], before)

    def test_raised_decks(self):
        chooser = chooser_of(635)
        kept = 0
        for _ in range(100):
            word = some_word(chooser, 3, 9)
            desk = Desk(Cup.of_word(word, 3))
            if any(word.count(letter) % 2 == 0 for letter in range(3)):
                continue
            self.assertIsNotNone(desk.lone_mix())
            # a free rank above each face leaves room to raise it
            desk = Desk(Cup([[entry for pair in zip(die, [0] * 9) for entry in pair] for die in desk.cup_now]))
            place = chooser.randrange(9)
            desk.raise_face(word[place], 2 * place)
            self.assertTrue(desk.cup_now.is_deck())
            self.assertIsNotNone(desk.lone_mix())
            kept += 1
        self.assertGreater(kept, 10)


class BackTest(DiceTest):
    def test_back(self):
        desk = Desk(RING)
        self.fails(NothingBack, {}, desk.back)
        desk.turn_round()
        desk.turn_round()
        found = desk.back()
        self.assertIs(type(found), Cup)
        self.same([found.dice, desk.cup_now.dice, desk.done], [(~Cup(RING)).dice, (~Cup(RING)).dice, 1])
        self.same([desk.back().dice, desk.done], [Cup(RING).dice, 0])
        self.fails(NothingBack, {}, desk.back)

    def test_marks(self):
        desk = Desk(RING)
        cups = [desk.cup_now]
        for rank in range(1, 6):
            desk.raise_face(0, rank)
            cups.append(desk.cup_now)
        self.same(desk.mark, 5)
        self.assertEqual(desk.to_mark(5), cups[5])
        desk.mark = 4
        self.same([desk.done, desk.mark, desk.cup_now.dice], [4, 4, cups[4].dice])
        self.assertEqual(desk.to_mark(2), cups[2])
        # what was taken back is gone: the next deed is deed 3
        self.fails(BadNumber, {"name": "mark"}, desk.to_mark, 3)
        desk.turn_round()
        self.same([desk.done, desk.cup_now.dice], [3, (~cups[2]).dice])
        desk.mark = 0
        self.assertEqual(desk.cup_now, cups[0])
        self.fails(NothingBack, {}, desk.back)
        desk.mark = 0
        self.same([desk.to_mark(0).dice, desk.done], [cups[0].dice, 0])

    def test_errors(self):
        desk = Desk(RING)
        desk.turn_round()
        check_number(self, "mark", (-1, 2), desk.to_mark)
        check_number(self, "mark", (-1, 2), lambda value: setattr(desk, "mark", value))
        self.same([desk.done, desk.cup_now.dice], [1, (~Cup(RING)).dice])


class QuestionTest(DiceTest):
    def test_answers(self):
        chooser = chooser_of(636)
        for _ in range(150):
            cup = some_cup(chooser)
            desk = Desk(list(cup))
            table = table_of(cup)
            self.same([desk.table_now(), desk.ranks_needed()], [table, fewest_ranks(table)])
            mix, told = desk.lone_mix(), only_mix(table)
            self.assertTrue(mix is None and told is None or type(mix) is Mix and mix == told)
            self.same(desk.settled_now(), (settled_count(cup), last_order(cup)))
            numbers = [chooser.randrange(cup.many) for _ in range(3)]
            self.same(desk.ring_place(numbers), closing_place(cup, numbers))
            self.check_order(cup, desk.find_order())

    def check_order(self, cup, row):
        """A row of all dice in which no die loses to the next one."""
        self.assertIs(type(row), tuple)
        self.assertEqual(sorted(row), list(range(cup.many)))
        for a, b in zip(row, row[1:]):
            self.assertGreaterEqual(lead(cup[a], cup[b]), 0)
            self.assertGreaterEqual(2 * worth_of(half_chance(cup[a], cup[b])), 1)

    def test_orders(self):
        for word in set(itertools.permutations((0, 0, 1, 1, 2, 2))):
            cup = Cup.of_word(word, 3)
            self.check_order(cup, Desk(cup).find_order())
        self.check_order(Cup(RING), Desk(RING).find_order())

    def test_third(self):
        chooser = chooser_of(637)
        seen = []
        for _ in range(200):
            cup = some_cup(chooser, 4, 5)
            desk = Desk(cup)
            for a, b in itertools.permutations(range(cup.many), 2):
                if lead(cup[a], cup[b]) <= 0:
                    self.fails(BadKind, {"die": b}, desk.third, a, b)
                    continue
                found = desk.third(a, b)
                seen.append(found is None)
                self.assertEqual(found is None, stands_over(cup[a], cup[b]))
                if found is not None:
                    self.assertIs(type(found), tuple)
                    leads = leads_over(cup, found)
                    self.assertTrue(leads[a] > 0 > leads[b])
        self.assertTrue(True in seen and False in seen)

    def test_settled(self):
        chooser = chooser_of(638)
        checked = 0
        for _ in range(150):
            desk = Desk(some_cup(chooser, 4, 5, 4))
            start, _ = desk.settled_now()
            for count in range(start, 7):
                desk.throw_many(count)
                table = desk.table_now()
                for row in itertools.permutations(range(len(table)), min(3, len(table))):
                    self.assertFalse(len(row) > 1 and all(table[a][b] > 0 for a, b in zip(row, row[1:] + row[:1])))
                desk.back()
                checked += 1
        self.assertGreater(checked, 100)

    def test_one_die(self):
        desk = Desk([(0, 2)])
        self.same([desk.table_now(), desk.ranks_needed(), desk.lone_mix().entries], [((0,),), 1, (1,)])
        self.same([desk.settled_now(), desk.find_order(), desk.ring_place([0, 0])], [(1, [(0,)]), (0,), (0, 2)])
        self.fails(BadKind, {"die": 0}, desk.third, 0, 0)
        self.fails(BadCup, {"place": -1}, desk.drop, 0)
        self.same(desk.put((1, 1)), {"dice": 2, "leads": (-2,), "ranks": 1})
        self.same(Desk([(1,)]).put((2,)), {"dice": 2, "leads": (0,), "ranks": 0})


class GreatestTest(DiceTest):
    def test_great_entries(self):
        chooser = chooser_of(639)
        desk = Desk(some_dice(chooser, 5, 40, GREAT))
        self.assertIn(self.ends_soon(5, desk.put, some_die(chooser, 40, GREAT))["ranks"], (0, 2))
        for call in (desk.table_now, desk.ranks_needed, desk.lone_mix, desk.settled_now, desk.find_order, desk.turn_round):
            self.ends_soon(5, call)
        self.ends_soon(5, desk.ring_place, list(range(6)))
        table = desk.table_now()
        for a, b in itertools.permutations(range(6), 2):
            if table[a][b] > 0:
                found = self.ends_soon(5, desk.third, a, b)
                if found is not None:
                    leads = leads_over(desk.cup_now, found)
                    self.assertTrue(leads[a] > 0 > leads[b])
                    self.assertLessEqual(digits_of(found), 800)
        self.ends_soon(5, desk.scale, [10 ** 20] * 6)

    def test_throws(self):
        chooser = chooser_of(640)
        desk = Desk(some_dice(chooser, 6, 4000, 10 ** 56))
        self.assertEqual(len(self.ends_soon(10, desk.throw_many, 6)["faces"]), 6)
        for call in (desk.table_now, desk.ranks_needed, desk.lone_mix, desk.settled_now, desk.find_order):
            self.ends_soon(10, call)
        self.ends_soon(10, desk.back)

    def test_two_hundred_deeds(self):
        chooser = chooser_of(641)
        desk = Desk(some_cup(chooser))

        def all_deeds():
            while desk.done < 200:
                deed_done(desk, *some_deed(chooser, desk.cup_now))

        self.ends_soon(10, all_deeds)
        self.same(desk.done, 200)
        cup = desk.cup_now
        desk.mark = 100
        for _ in range(100):
            desk.back()
        self.same(desk.done, 0)
        self.assertIsNotNone(cup)


class ErrorTest(DiceTest):
    def test_deeds(self):
        desk = Desk(RING)
        desk.turn_round()
        cup = desk.cup_now
        check_cup(self, Desk)
        check_die(self, desk.put)
        self.fails(OtherSize, {"first": 9, "second": 2}, desk.put, (1, 0))
        check_number(self, "number", (-1, 3), desk.drop)
        check_number(self, "number", (-1, 3), lambda value: desk.raise_face(value, None))
        check_number(self, "rank", (-1, 8, 9), lambda value: desk.raise_face(0, value))
        self.fails(BadNumber, {"name": "rank"}, desk.raise_face, 0, 1)
        check_cup(self, desk.stack_on)
        self.fails(OtherSize, {"first": 3, "second": 2}, desk.stack_on, [(1,), (1,)])
        check_mix(self, desk.blend)
        self.fails(OtherSize, {"first": 3, "second": 2}, desk.blend, (1, 0))
        self.fails(OtherSize, {"first": 3, "second": 4}, desk.blend, Mix((1, 0, 1, 1)))
        check_number(self, "count", (0, 7, -1), desk.throw_many)
        for value in NO_ROWS + ((), [], [1, 1], (1, 1, 1, 1), Mix((1, 1, 1))):
            self.fails(BadWeights, {"place": -1}, desk.scale, value)
        for value in NO_INTS + (0, -1):
            self.fails(BadWeights, {"place": 1}, desk.scale, (1, value, 0))
        # what raised an error was not done
        self.same([desk.done, desk.cup_now.dice], [1, cup.dice])
        self.fails(BadDie, {"place": -1}, desk.put, (0,) * 9)

    def test_no_rank_above(self):
        desk = Desk([(1,), (2,)])
        check_number(self, "rank", (0, -1, 1), lambda value: desk.raise_face(1, value))

    def test_questions(self):
        desk = Desk(RING)
        for value in NO_ROWS + ((), [0], (3, 0), (0, True)):
            self.fails(BadNumber, {"name": "numbers"}, desk.ring_place, value)
        check_number(self, "first", (-1, 3), lambda value: desk.third(value, None))
        check_number(self, "second", (-1, 3), lambda value: desk.third(0, value))
        self.fails(BadKind, {"die": 2}, desk.third, 0, 2)
        self.fails(BadKind, {"die": 1}, desk.third, 1, 1)


if __name__ == "__main__":
    unittest.main()
