"""The interface: its names, where they are defined, and their parameters."""

import importlib
import inspect
import unittest

NAMES = {
    "amounts": "is_int(value) check_int(value,name,low) common_divisor(row) shortened(row) set_of(row,many)",
    "fractions_of": (
        "fraction(value,name) told_chance(value,name) added(first,second) taken_off(first,second)"
        " multiplied(first,second) divided(first,second) is_less(first,second) is_equal(first,second)"
    ),
    "dice": (
        "die_of(row) faces(die) below(die,gap) belows(die) top_rank(die) bottom_rank(die) held_ranks(die)"
        " is_one_faced(die) is_two_ranked(die) one_faced(ranks,rank,count) is_like(first,second)"
        " stands_over(first,second) short_die(die) mixed_die(weights,*dice)"
    ),
    "throws": (
        "wins(first,second) ties(first,second) lead(first,second) beats(first,second) chance(first,second)"
        " half_chance(first,second) areas(first,second)"
    ),
    "cups": "Cup(dice) stacked(*cups)",
    "tables": (
        "table_of(cup) check_table(rows) is_odd(table) table_sum(first,second) table_times(table,number)"
        " sub_table(table,numbers) pair_entries(table) throws_times(cup,table)"
    ),
    "texts": "cup_text(cup) cup_from(text)",
    "reaching": "with_lead(first,second,number) deck_with_lead(first,second,number)",
    "making": (
        "cup_for(table) faces_needed(table) odd_lot(table) deck_for(table) even_deck_for(table) deck_beside(cup)"
    ),
    "words": "word_of(cup) check_word(word,many) word_table(word,many) swapped(word,at)",
    "exchanges": (
        "cells_between(word,other,first,second) fewest_exchanges(word,other) exchange_way(word,other)"
        " crossing_pair(word,other) halfway(word,other,number)"
    ),
    "pairing": "paired_moves(word,other) paired_way(word,other) same_lead(word)",
    "putting": "put_in(cup,inner) thrown_again(cup)",
    "linear": "row_rank(rows) kernel_rows(rows,width) solution(rows,right)",
    "programs": "Outcome(word,total,unknowns,weights) greatest_sum(aims,rows,bounds)",
}


class InterfaceTest(unittest.TestCase):
    def test_names_and_parameters(self):
        for stem, listed in NAMES.items():
            module = importlib.import_module(f"dicewins.{stem}")
            for entry in listed.split():
                name, _, parameters = entry.rstrip(")").partition("(")
                found = getattr(module, name)
                self.assertEqual(found.__module__, f"dicewins.{stem}")
                told = ",".join(str(each) for each in inspect.signature(found).parameters.values())
                self.assertEqual(told, parameters, entry)


if __name__ == "__main__":
    unittest.main()
