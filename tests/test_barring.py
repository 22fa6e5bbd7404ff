"""Points 93 to 95 and 105: barred webs."""

import itertools
import unittest
from fractions import Fraction

from dicewins.barring import barred_row, barred_web, closing_web, must_meet
from dicewins.chains import closes_at
from dicewins.cutting import cut_ring
from dicewins.rings import least_many, ring_for
from dicewins.walks import has_walk, is_barred, round_of
from dicewins.webs import Web
from helping import DiceTest, chooser_of, digits_of, some_dice, worth_of
from test_chains import check_losses, fractions_for, passed
from test_rings import told_turn
from test_webs import SMALL, great_web, shares_told, some_web


class BarredTest(DiceTest):
    def check(self, shares):
        """What must_meet, barred_web and ring_for say of a row of shares; whether there is a web."""
        found = barred_web(passed(shares))
        turn = told_turn(shares)
        self.assertEqual(found is not None, turn is not None)
        self.assertIs(must_meet(passed([1 - share for share in shares])), turn is None)
        ring = ring_for(passed(shares))
        self.assertEqual(ring is not None, turn is not None)
        if found is None:
            return False
        self.assertEqual(found, Web.of_cup(ring))
        self.assertTrue(all(got >= told for got, told in zip(shares_told(found), shares, strict=True)))
        self.assertTrue(is_barred(found))
        return True

    def test_rows(self):
        chooser = chooser_of(521)
        seen = []
        for _ in range(600):
            low = chooser.choice((0, Fraction(1, 2), Fraction(3, 5)))
            shares = fractions_for(chooser, chooser.randint(2, 8), low, chooser.choice((Fraction(3, 4), 1)))
            seen.append((self.check(shares), len(shares)))
        for told in (True, False):
            self.assertEqual({many for there, many in seen if there is told}, {2, 3, 4, 5, 6, 7, 8})

    def test_small_rows(self):
        for bottom, many in ((5, 2), (4, 3), (3, 4)):
            for row in itertools.product([Fraction(k, bottom) for k in range(bottom + 1)], repeat=many):
                self.check(list(row))

    def test_just_at_the_edge(self):
        # three equal chances t are met by no ring just above t * t + t = 1; two with a sum above 1 neither
        self.same([must_meet([(1, 2), (1, 2)]), must_meet([(1, 2), (499999, 10 ** 6)])], [False, True])
        self.same([must_meet([(4, 9)] * 3), must_meet([(381966, 10 ** 6)] * 3), must_meet([(381967, 10 ** 6)] * 3)],
                  [False, True, False])
        self.same([must_meet([(1, 4)] * 3), must_meet([(1, 3)] * 4), must_meet([0, 0]), must_meet([1, 0])],
                  [True, False, True, False])

    def test_every_web_below_the_losses_has_a_round(self):
        chooser = chooser_of(522)
        checked = 0
        for _ in range(1500):
            web = some_web(chooser, 4, 3, 3)
            if must_meet(web.losses()):
                self.assertIsNotNone(round_of(web))
                checked += 1
        self.assertGreater(checked, 100)

    def test_three_quarters(self):
        for many in (2, 3, 8):
            self.same([must_meet([(1, 4)] * many), barred_web([(3, 4)] * many)], [True, None])
        chooser = chooser_of(523)
        for _ in range(200):
            web = some_web(chooser, 5, 3, 2)
            if all(4 * top >= 3 * bottom for top, bottom in (web.share(number) for number in range(web.size))):
                self.assertFalse(is_barred(web))

    def test_equal_shares(self):
        for share in ((0, 1), (1, 2), (3, 5), (2, 3), (17, 25), (7, 10), (71, 100)):
            least = least_many(share)
            self.assertLessEqual(least, 8)
            for many in range(2, 9):
                found = barred_web([share] * many)
                self.assertEqual(found is not None, many >= least, (share, many))
                if found is not None:
                    self.assertTrue(is_barred(found))

    def test_greatest(self):
        chooser = chooser_of(524)
        for trial in range(10):
            low = 60 * 10 ** 4 + 10 ** 4 * trial
            shares = [Fraction(chooser.randint(low, 75 * 10 ** 4), 10 ** 6 - chooser.randint(0, 99)) for _ in range(8)]
            self.ends_soon(1, barred_web, passed(shares))
            self.ends_soon(1, must_meet, passed(shares + shares))
            self.check(shares)

    def test_errors(self):
        check_losses(self, must_meet, "losses", 2)
        check_losses(self, barred_web, "shares", 2)
        check_losses(self, barred_row, "shares", 1)


class ClosingTest(DiceTest):
    def test_webs(self):
        chooser = chooser_of(525)
        seen = []
        for _ in range(800):
            web = some_web(chooser)
            found = closing_web(web)
            if is_barred(web):
                self.same(found, told_turn(shares_told(web)))
                self.assertIsNotNone(found)
            else:
                self.assertIsNone(found)
                # a turn of such a web may close, too
                seen.append(told_turn(shares_told(web)) is not None)
        self.assertTrue(True in seen and False in seen)

    def test_known_ones(self):
        self.same(closing_web(SMALL), (0, 2))
        self.same(closing_web(Web([[1], [1]], [[(0, 0)], []])), (0, 2))
        self.same(closing_web(Web([[1], [1]], [[], [(0, 0)]])), (0, 1))
        self.assertIsNone(closing_web(Web([[1], [1]], [[(0, 0)], [(0, 0)]])))

    def test_webs_of_cups(self):
        chooser = chooser_of(526)
        for _ in range(200):
            dice = some_dice(chooser, chooser.randint(2, 5), chooser.randint(2, 6), 3)
            web = Web.of_cup(dice)
            self.same(closing_web(web), told_turn(shares_told(web)))
            number = chooser.randrange(len(dice))
            after = Web.of_cup(cut_ring(dice, number))
            self.assertTrue(is_barred(after))
            self.assertTrue(all(new >= old for new, old in zip(shares_told(after), shares_told(web))))

    def test_greatest(self):
        chooser = chooser_of(527)
        for barred in (True, False):
            web = great_web(chooser, barred=barred)
            found = self.ends_soon(1, closing_web, web)
            self.assertEqual(found is not None, is_barred(web))


class RowTest(DiceTest):
    def test_rows(self):
        chooser = chooser_of(528)
        seen = []
        for _ in range(500):
            low = chooser.choice((0, Fraction(1, 2), Fraction(2, 3)))
            shares = fractions_for(chooser, chooser.randint(1, 7), low, chooser.choice((Fraction(4, 5), 1)))
            found = barred_row(passed(shares))
            closes = closes_at(passed([1 - share for share in shares])) is not None
            self.assertEqual(found is not None, closes)
            seen.append(closes)
            if closes:
                self.assertIs(type(found), Web)
                self.assertEqual(found.size, len(shares) + 1)
                self.assertTrue(all(got >= told for got, told in zip(shares_told(found), shares)))
                self.assertEqual(len(found.relations[-1]), len(found.lots[-1]) * len(found.lots[0]))
                self.assertFalse(has_walk(found))
                self.assertEqual(Web.drawn_row(found.lots, found.relations[:-1]), found)
                self.assertLessEqual(digits_of(*found.lots), 800)
        self.assertGreater(min(seen.count(True), seen.count(False)), 50)

    def test_known_ones(self):
        self.same([barred_row([1]), barred_row([(1, 10 ** 6)]), barred_row([0]).size], [None, None, 2])
        self.assertFalse(has_walk(barred_row([0])))
        self.assertFalse(has_walk(barred_row([(1, 2), (1, 2)])))
        self.assertIsNone(barred_row([(1, 2), (500001, 10 ** 6)]))
        self.assertIsNone(barred_row([(1, 2), 1, (1, 2)]))
        self.same(worth_of(barred_row([1, 0, 1]).share(0)), Fraction(1))

    def test_no_walk_needs_a_chain_that_closes(self):
        chooser = chooser_of(529)
        barred = 0
        for _ in range(600):
            web = some_web(chooser, 4, 3, 3)
            if not has_walk(web):
                self.assertIsNotNone(closes_at(web.losses()[:-1]))
                barred += 1
        self.assertGreater(barred, 50)


if __name__ == "__main__":
    unittest.main()
