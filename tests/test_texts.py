"""Point 15: texts."""

import unittest

from dicewins.cups import Cup
from dicewins.errors import BadDie, BadText
from dicewins.texts import cup_from, cup_text
from helping import DiceTest, chooser_of, some_dice
from test_cups import check_cup


class WriteTest(DiceTest):
    def test_texts(self):
        self.same(cup_text([(2, 0), (1, 1)]), "cup 2 2\n2 0\n1 1\n")
        self.same(cup_text(Cup([(7,)])), "cup 1 1\n7\n")
        self.same(cup_text([(0, 10 ** 60)]), "cup 1 2\n0 1" + "0" * 60 + "\n")
        check_cup(self, cup_text)

    def test_there_and_back(self):
        chooser = chooser_of(41)
        for most in (1, 9, 12, 10 ** 60, 10 ** 1000 - 1):
            for _ in range(20):
                cup = Cup(some_dice(chooser, chooser.randint(1, 12), chooser.randint(1, 12), most))
                found = cup_from(cup_text(cup))
                self.assertIs(type(found), Cup)
                self.assertEqual(found, cup)


class ReadTest(DiceTest):
    def reports(self, line, text):
        """The text is reported at the line, without a cause."""
        error = self.fails(BadText, {"line": line}, cup_from, text)
        self.assertIsNone(error.__cause__)

    def test_no_string(self):
        for value in (None, 3, b"cup 1 1\n1\n", ["cup 1 1\n", "1\n"], True):
            self.reports(-1, value)

    def test_line_0(self):
        for text in (
            "", "\n", "cup", "cup 1 1", "cup 1\n1\n", "cup 1 1 1\n1\n", "Cup 1 1\n1\n", " cup 1 1\n1\n", "cup 1 1 \n1\n",
            "cup  1 1\n1\n", "cup 01 1\n1\n", "cup 1 +1\n1\n", "cup 0 1\n", "cup 1 0\n\n", "cup -1 1\n1\n", "cup 1 1\r\n1\n",
            "cup one 1\n1\n", "cup 1\t1\n1\n", "cup 1 1_0\n", "cup\u00a01 1\n1\n", "cup 1 \u0661\n1\n", "cup 1 \u00b2\n1\n",
            "1 1 cup\n1\n", "cup 00 1\n1\n", "\ncup 1 1\n1\n",
        ):
            self.reports(0, text)

    def test_lines_of_dice(self):
        for line, text in (
            (1, "cup 1 1\n"), (1, "cup 1 1\n1"), (1, "cup 1 1\n\n"), (1, "cup 1 1\n1 1\n"), (1, "cup 1 2\n1\n"),
            (1, "cup 1 2\n1  1\n"), (1, "cup 1 2\n 1 1\n"), (1, "cup 1 2\n1 1 \n"), (1, "cup 1 2\n1 01\n"),
            (1, "cup 1 2\n1 00\n"), (1, "cup 1 2\n1 -1\n"), (1, "cup 1 2\n1 +1\n"), (1, "cup 1 2\n1 x\n"),
            (1, "cup 1 2\n1 \u0661\n"), (1, "cup 1 2\n1\t1\n"), (1, "cup 1 1\n1\r\n"), (1, "cup 1 1\n1_0\n"),
            (2, "cup 2 1\n1\n"), (2, "cup 2 1\n1\n1"), (2, "cup 2 1\n1\nx\n"), (2, "cup 2 2\n1 1\n1\n"),
            (1, "cup 2 1\nx\ny\n"), (1, "cup 2 1\nx\n0\n"), (1, "cup 1 1\n1\x0b\n"), (1, "cup 1 1\n1.0\n"),
            (3, "cup 1" + "0" * 900 + " 1\n1\n1\n"), (1, "cup 1 1" + "0" * 900 + "\n1\n"),
        ):
            self.reports(line, text)

    def test_something_behind(self):
        for line, text in (
            (2, "cup 1 1\n1\n\n"), (2, "cup 1 1\n1\n "), (2, "cup 1 1\n1\n1\n"), (2, "cup 1 1\n1\nx"),
            (3, "cup 2 1\n1\n1\n0\n"), (2, "cup 1 1\n1\ncup 1 1\n1\n"),
        ):
            self.reports(line, text)

    def test_zero_rows(self):
        for line, text in (
            (1, "cup 1 1\n0\n"), (1, "cup 2 2\n0 0\n1 1\n"), (2, "cup 2 2\n1 1\n0 0\n"), (1, "cup 2 1\n0\nx\n"),
            (1, "cup 1 1\n0\nmore"), (1, "cup 2 1\n0\n"),
        ):
            error = self.fails(BadText, {"line": line}, cup_from, text)
            self.assertIs(type(error.__cause__), BadDie)
            self.assertEqual(error.__cause__.place, -1)

    def test_zero_rows_with_something_else_wrong(self):
        for line, text in (
            (1, "cup 1 1\n0"), (1, "cup 1 2\n0\n"), (1, "cup 1 2\n0 0 0\n"), (1, "cup 1 2\n0 00\n"), (1, "cup 1 2\n0  0\n"),
        ):
            self.reports(line, text)


if __name__ == "__main__":
    unittest.main()
