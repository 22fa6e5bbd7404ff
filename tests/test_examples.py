"""The examples of the document, word for word."""

import doctest
import unittest

STAGE_1 = '''
    >>> from dicewins.throws import areas, chance, half_chance, lead
    >>> a, b = (0, 2, 1), (1, 1, 1)
    >>> [lead(a, b), areas(a, b), chance(a, b), half_chance(a, b)]
    [2, (0, 2, 0), (4, 9), (11, 18)]

    >>> from dicewins.cups import Cup
    >>> cup = Cup([(2, 0), (1, 1)])
    >>> [(cup + ~cup).dice, cup.spread(2).dice, cup.wide().dice]
    [((2, 0, 0, 2), (1, 1, 1, 1)), ((2, 2, 0, 0), (1, 1, 1, 1)), ((0, 2, 0, 0, 0), (0, 1, 0, 1, 0))]

    >>> from dicewins.tables import table_of
    >>> table_of([(0, 1, 0, 1, 0, 0, 0, 0, 1), (1, 0, 0, 0, 0, 1, 0, 1, 0), (0, 0, 1, 0, 1, 0, 1, 0, 0)])
    ((0, 1, -1), (-1, 0, 1), (1, -1, 0))
'''

STAGE_2 = '''
    >>> from dicewins.making import deck_beside, deck_for, even_deck_for, odd_lot
    >>> from dicewins.tables import table_of
    >>> table = ((0, 1, 2), (-1, 0, 0), (-2, 0, 0))
    >>> [odd_lot(table), table_of(deck_for(table)) == table, even_deck_for(table)]
    [(0, 1), True, None]
    >>> deck_beside([(2, 0), (1, 1)]).dice
    ((2, 0, 0, 2, 0, 0), (0, 1, 1, 0, 1, 1))

    >>> from dicewins.exchanges import cells_between, crossing_pair, fewest_exchanges
    >>> from dicewins.pairing import paired_moves
    >>> one, two = (0, 1, 1, 0), (1, 0, 0, 1)
    >>> [cells_between(one, two, 0, 1), fewest_exchanges(one, two), crossing_pair(one, two), paired_moves(one, two)]
    [[(0, 0), (1, 1)], 2, (0, 1), 1]

    >>> from dicewins.programs import greatest_sum
    >>> found = greatest_sum((1, 1), ((1, 2), (3, 1)), (4, 6))
    >>> [found.word, found.total, found.unknowns, found.weights]
    ['reached', (14, 5), ((8, 5), (6, 5)), ((2, 5), (1, 5))]
'''

STAGE_3 = '''
    >>> from dicewins.weighing import Weighing, below_all, tie_mix
    >>> ring = ((0, 1, -1), (-1, 0, 1), (1, -1, 0))
    >>> [tie_mix(ring).entries, below_all(ring), Weighing((1, 0, 2)).worth(ring).entries]
    [(1, 1, 1), None, (-2, 1, 1)]

    >>> from dicewins.fewest import face_row, fewest_ranks, thrown
    >>> pair = ((0, 1), (-1, 0))
    >>> ring = ((0, 1, -1), (-1, 0, 1), (1, -1, 0))
    >>> [fewest_ranks(pair), face_row(pair, (2, 3)), fewest_ranks(ring), thrown(pair).cup.ranks]
    [2, True, 4, 2]

    >>> from dicewins.slopes import alternates, slope
    >>> [slope((1, 2, 3)), slope((2, 1)), slope((0, 0, 4)), alternates((2, -2, 2)), alternates((1, -1))]
    [(5, 3), (1, 2), None, True, False]
'''

STAGE_4 = '''
    >>> from dicewins.best import beaten_by, is_best, leaders
    >>> ring = ((0, 1, -1), (-1, 0, 1), (1, -1, 0))
    >>> [is_best(ring, (1, 1, 1)), is_best(ring, (1, 0, 0)), beaten_by(ring, (1, 0, 0)), leaders(ring, (1, 0, 0))]
    [True, False, (1,), (2,)]

    >>> from dicewins.sorting import all_tie_mix, can_be_taken, full_mix
    >>> pair, ring = ((0, 2), (-2, 0)), ((0, 1, -1), (-1, 0, 1), (1, -1, 0))
    >>> [can_be_taken(pair), full_mix(pair).entries, all_tie_mix(pair), all_tie_mix(ring).entries]
    [(0,), (1, 0), None, (1, 1, 1)]

    >>> from dicewins.single import only_mix, two_mixes
    >>> level, pair = ((0, 0), (0, 0)), ((0, 2), (-2, 0))
    >>> [only_mix(level), only_mix(pair).entries, two_mixes(level) is None, two_mixes(pair)]
    [None, (1, 0), False, None]

    >>> from dicewins.pfaffs import left_out_row, odd_mix, odd_table_for, pfaffian
    >>> ring = ((0, 3, -1), (-3, 0, 5), (1, -5, 0))
    >>> four = ((0, 1, 2, 3), (-1, 0, 4, 5), (-2, -4, 0, 6), (-3, -5, -6, 0))
    >>> [odd_mix(ring).entries, left_out_row(ring), pfaffian(four)]
    [(5, 1, 3), (5, 1, 3), 8]
    >>> [odd_table_for((1, 3, 5)), odd_table_for((3, 0, 0))]
    [((0, 5, -3), (-5, 0, 1), (3, -1, 0)), ((0, 1, 1), (-1, 0, 1), (-1, -1, 0))]
'''

STAGE_5 = '''
    >>> from dicewins.paths import at_gaps, gains, leads_over
    >>> cup = [(1, 0, 1), (0, 2, 0)]
    >>> [gains(cup), leads_over(cup, (1, 0, 0, 0, 3, 0, 0)), at_gaps((0, 0, 0, 1, 1, 0, 0))]
    [((-2, -2), (0, -2), (0, 2), (2, 2)), (-2, 4), (0, 0, 1, 0, 3, 0, 0)]

    >>> from dicewins.further import closer, further
    >>> answer = further([(2, 1), (1, 2)], beating=[1], losing=[0])
    >>> [answer.WORD, answer.weights, answer.shows([(2, 1), (1, 2)], [[1], [0], []])]
    ['barred', (1, 1), True]
    >>> [closer([(0, 0, 2), (1, 0, 1)]), closer([(1, 0, 2), (0, 3, 0)]) is None]
    [None, False]

    >>> from dicewins.most import most_lead
    >>> most_lead([(1, 0, 1), (0, 2, 0)], 1, [0, None]).value
    (2, 1)
'''

STAGE_6 = '''
    >>> from dicewins.chains import closes_at, closing_turn, rests
    >>> [rests([(1, 2), (1, 2), 0]), closes_at([0, (1, 2), (1, 2)]), closing_turn([1, (1, 2), (1, 2)])]
    [((1, 1), (1, 2), (0, 1)), 3, (0, 3)]

    >>> from dicewins.rings import least_many, ring_for
    >>> [ring_for([(2, 3)] * 3), ring_for([(1, 2), (1, 2)]).is_deck(), least_many((2, 3)), least_many((3, 4))]
    [None, True, 4, None]

    >>> from dicewins.cutting import points_of
    >>> points_of([(1, 1, 1), (0, 2, 0)], 0)
    [(0, (0, 1), (1, 1)), (1, (0, 1), (0, 1)), (2, (1, 1), (0, 1))]

    >>> from dicewins.closed import closing_place, row_losses
    >>> cup = [(0, 1, 0, 1, 0, 0, 0, 0, 1), (1, 0, 0, 0, 0, 1, 0, 1, 0), (0, 0, 1, 0, 1, 0, 1, 0, 0)]
    >>> [row_losses(cup, [0, 1, 2]), closing_place(cup, [0, 1, 2])]
    [((4, 9), (4, 9), (4, 9)), (0, 3)]

    >>> from dicewins.ends import best_cut, last_chance, last_span
    >>> [best_cut([(2, 3), (2, 3)]), last_chance([(2, 3), (2, 3)]), last_span([(4, 5), (4, 5)])]
    [1, (5, 9), ((0, 1), (9, 25))]
'''

STAGE_7 = '''
    >>> from dicewins.webs import Web
    >>> from dicewins.barring import closing_web
    >>> from dicewins.cuts import crossings
    >>> web = Web([[1, 2], [1, 1]], [[(0, 0), (1, 1)], [(0, 1), (1, 0)]])
    >>> [web.losses(), closing_web(web), crossings(web)]
    [((1, 2), (1, 2)), (0, 2), 1]

    >>> from dicewins.barring import must_meet
    >>> [must_meet([(1, 4), (1, 4), (1, 4)]), must_meet([(1, 3), (1, 3), (1, 3), (1, 3)])]
    [True, False]

    >>> from dicewins.webs import Web
    >>> web = Web.of_cup([[1, 0, 1], [0, 2, 0]])
    >>> [web.lots, web.relations, web.share(0)]
    [((1, 1), (2,)), (((1, 0),), ((0, 0),)), (1, 2)]

    >>> from dicewins.joins import join_of_two, least_join
    >>> [least_join([(2, 3), (2, 3)]), join_of_two((2, 3), (2, 3)), join_of_two((1, 2), (1, 3))]
    [(4, 9), (4, 9), (0, 1)]

    >>> from dicewins.webs import Web
    >>> from dicewins.walks import joined, reached, rounds
    >>> web = Web([[1, 1], [1], [2, 1]], [[(1, 0)], [(0, 0), (0, 1)], [(0, 0), (1, 1)]])
    >>> [list(rounds(web)), joined(web), reached(web, 2, [0])]
    [[(1, 0, 1)], [(1, 0), (1, 1)], ((0,), (0,), ())]
'''

STAGE_8 = '''
    >>> from dicewins.many import greatest_die, least_die, chance_of_two
    >>> [greatest_die([1, 0, 1], 2), least_die([1, 0, 1], 2), chance_of_two([1, 0, 1], 2, [0, 1, 0], 1)]
    [(1, 0, 3), (3, 0, 1), (3, 4)]

    >>> from dicewins.many import exchange_gain
    >>> [exchange_gain([0, 1, 0, 1], 2, 1), exchange_gain([0, 1, 0, 1], 2, 2)]
    [2, 18]

    >>> from dicewins.doubling import cup_of_levels
    >>> cup_of_levels(3, [(1, [[0], [1, 2]]), (2, [[0, 1, 2]])]).dice
    ((1, 0, 2), (0, 1, 2), (0, 1, 2))

    >>> from dicewins.doubling import double_cup
    >>> from dicewins.many import many_cup
    >>> from dicewins.tables import table_of
    >>> cup = double_cup([[0, 1], [-1, 0]], [[0, -1], [1, 0]])
    >>> [table_of(cup), table_of(many_cup(cup, 2))]
    [((0, 1), (-1, 0)), ((0, -1), (1, 0))]

    >>> from dicewins.orders import last_order, last_unlike, settled_count
    >>> dice = [[2, 0, 0, 1], [0, 1, 1, 0]]
    >>> [last_unlike(dice[0], dice[1]), settled_count(dice), last_order(dice)]
    [3, 2, [(0,), (1,)]]
'''

STAGE_9 = '''
    >>> from dicewins.telling import tells_number
    >>> [tells_number(3, 1, [1]), tells_number(3, 2, [1])]
    [True, False]

    >>> from dicewins.telling import die_told
    >>> die_told(3, 2, [0, 2], [1, -1])
    (1, 0, 1)

    >>> from dicewins.following import follow_weights
    >>> follow_weights([[0, 2]], [0, 1])
    (((1, 2),), (0, 1))

    >>> from dicewins.ranges import lead_range
    >>> span = lead_range([[1, 0, 1]], [0], [1, 0, 0])
    >>> [span.low, span.high]
    [(1, 2), (1, 1)]

    >>> from dicewins.hidden import Hidden
    >>> die = Hidden(3, 2)
    >>> die.tell([1, 0, 0], 1)
    >>> die.tell([0, 0, 1], -1)
    >>> [die.settled(), die.found_die(), die.asked]
    [True, (1, 0, 1), 2]
'''

STAGE_10 = '''
    >>> from dicewins.desks import Desk
    >>> desk = Desk([[0, 1, 0, 1, 0, 0, 0, 0, 1], [1, 0, 0, 0, 0, 1, 0, 1, 0]])
    >>> news = desk.put([0, 0, 1, 0, 1, 0, 1, 0, 0])
    >>> [news, desk.lone_mix().entries, desk.done]
    [{'dice': 3, 'leads': (1, -1), 'ranks': 2}, (1, 1, 1), 1]

    >>> from dicewins.desks import Desk
    >>> desk = Desk([[0, 1], [1, 0]])
    >>> [desk.ranks_needed(), desk.blend([1, 1]), desk.cup_now.dice, desk.ranks_needed()]
    [2, {'dice': 3, 'leads': (-1, 1)}, ((0, 1), (1, 0), (1, 1)), 2]

    >>> from dicewins.desks import Desk
    >>> from dicewins.trials import tried
    >>> desk = Desk([[1, 0, 1], [0, 2, 0]])
    >>> news = tried(desk, [["raise_face", 0, 0], ["throw_many", 2]])
    >>> [news, desk.done, desk.cup_now.dice]
    [[{'leads': (0, 2)}, {'faces': (4, 4)}], 0, ((1, 0, 1), (0, 2, 0))]

    >>> from dicewins.listing import listing
    >>> listing([[1, 0, 1], [0, 2, 0], [1, 0, 0]])
    ['die 0: faces 2, ranks 0 2', 'die 1: faces 2, ranks 1', 'die 2: faces 1, ranks 0', '0 ties 1', '0 beats 2 by 1', '1 beats 2 by 2']
'''


class ExampleTest(unittest.TestCase):
    def check(self, text, many):
        """Each example of the text gives what stands below it."""
        examples = doctest.DocTestParser().get_doctest(text, {}, "document", None, 0)
        told = []
        result = doctest.DocTestRunner(verbose=False).run(examples, out=told.append)
        self.assertEqual(result.failed, 0, "".join(told))
        self.assertEqual(result.attempted, many)

    def test_stage_1(self):
        self.check(STAGE_1, 8)

    def test_stage_2(self):
        self.check(STAGE_2, 12)

    def test_stage_3(self):
        self.check(STAGE_3, 9)

    def test_stage_4(self):
        self.check(STAGE_4, 14)

    def test_stage_5(self):
        self.check(STAGE_5, 9)

    def test_stage_6(self):
        self.check(STAGE_6, 11)

    def test_stage_7(self):
        self.check(STAGE_7, 16)

    def test_stage_8(self):
        self.check(STAGE_8, 14)

    def test_stage_9(self):
        self.check(STAGE_9, 14)

    def test_stage_10(self):
        self.check(STAGE_10, 14)


if __name__ == "__main__":
    unittest.main()
