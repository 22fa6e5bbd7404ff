"""The interface: its names, where they are defined, and their parameters."""

import importlib
import inspect
import unittest

NAMES = {
    "amounts": "is_int(value) check_int(value,name,low) common_divisor(row) shortened(row) set_of(row,many)",
    "fractions_of": (
        "fraction(value,name) told_chance(value,name) added(first,second) taken_off(first,second)"
        " multiplied(first,second) divided(first,second) is_less(first,second) is_equal(first,second)"
    ),
    "dice": (
        "die_of(row) faces(die) below(die,gap) belows(die) top_rank(die) bottom_rank(die) held_ranks(die)"
        " is_one_faced(die) is_two_ranked(die) one_faced(ranks,rank,count) is_like(first,second)"
        " stands_over(first,second) short_die(die) mixed_die(weights,*dice)"
    ),
    "throws": (
        "wins(first,second) ties(first,second) lead(first,second) beats(first,second) chance(first,second)"
        " half_chance(first,second) areas(first,second)"
    ),
    "cups": "Cup(dice) stacked(*cups)",
    "tables": (
        "table_of(cup) check_table(rows) is_odd(table) table_sum(first,second) table_times(table,number)"
        " sub_table(table,numbers) pair_entries(table) throws_times(cup,table)"
    ),
    "texts": "cup_text(cup) cup_from(text)",
    "reaching": "with_lead(first,second,number) deck_with_lead(first,second,number)",
    "making": (
        "cup_for(table) faces_needed(table) odd_lot(table) deck_for(table) even_deck_for(table) deck_beside(cup)"
    ),
    "words": "word_of(cup) check_word(word,many) word_table(word,many) swapped(word,at)",
    "exchanges": (
        "cells_between(word,other,first,second) fewest_exchanges(word,other) exchange_way(word,other)"
        " crossing_pair(word,other) halfway(word,other,number)"
    ),
    "pairing": "paired_moves(word,other) paired_way(word,other) same_lead(word)",
    "putting": "put_in(cup,inner) thrown_again(cup)",
    "linear": "row_rank(rows) kernel_rows(rows,width) solution(rows,right)",
    "programs": "Outcome(word,total,unknowns,weights) greatest_sum(aims,rows,bounds)",
    "weighing": "Weighing(entries) Mix(entries) tie_mix(table) below_all(table)",
    "planes": "table_rank(table) terms_of(table) inverse_signs(ranks)",
    "fewest": (
        "fewest_ranks(table) Thrown(cup,times,reason) thrown(table) face_row(table,row) thrown_with(table,row)"
        " thrown_wide(table,row)"
    ),
    "slopes": "slope(die) ring_on_four(many) alternates(row)",
    "best": (
        "is_best(table,mix) best_mix(table) best_within(table,numbers) beaten_by(table,mix) leaders(table,mix)"
    ),
    "sorting": (
        "sorted_mixes(table) can_be_taken(table) full_mix(table) all_tie_mix(table) none_against(table)"
    ),
    "single": "only_mix(table) two_mixes(table)",
    "pfaffs": "pfaffian(table) left_out_row(table) odd_table_for(mix) odd_mix(table) mix_ring(table)",
    "paths": (
        "gains(cup) leads_over(cup,die) at_gaps(die) Answer(size) Found(die,number=1) Barred(size,weights)"
    ),
    "further": (
        "further(cup,*,beating=(),losing=(),tying=()) leads_row(cup,row,number) leads_free(cup,row)"
        " between(cup,upper,lower) closer(cup)"
    ),
    "most": "Most(die,value,weights) most_lead(cup,die,bounds)",
    "follows": (
        "follows_beaten(cup,numbers,die) mix_over(cup,numbers,die) beaten_among(cup,die,numbers)"
        " mix_under(cup,die,numbers) is_free(cup) standing_pair(cup)"
    ),
    "chains": "rests(losses) closes_at(losses) rest_of(losses) turns(chances) closing_turn(chances)",
    "rings": (
        "ring_for(chances,*,half=False) is_ring(cup,chances,*,half=False) equal_ring(many,chance) least_many(chance)"
    ),
    "cutting": "points_of(cup,number) cut_ring(cup,number) cut_all(cup)",
    "closed": "row_losses(cup,numbers) closing_place(cup,numbers) ring_losses(cup) closing_of(cup)",
    "ends": (
        "last_chance(chances) best_cut(chances) last_ring(chances) exact_ring(chances) last_span(chances)"
    ),
    "webs": "Web(lots,relations) web_turned(web)",
    "walks": (
        "reached(web,first,points) has_walk(web) walk_of(web) joined(web) joined_share(web) rounds(web) round_of(web)"
        " is_barred(web)"
    ),
    "barring": "must_meet(losses) closing_web(web) barred_web(shares) barred_row(shares)",
    "cuts": "lot_cut(web,number) two_pointed(web) crossings(web)",
    "joins": "least_join(shares) join_of_two(first,second) joining_cup(shares)",
    "many": (
        "greatest_die(die,count) least_die(die,count) Greatest(count) Least(count) many_cup(cup,count,*,least=False)"
        " chance_of_two(a,count,b,other) exchange_gain(word,at,count)"
    ),
    "doubling": (
        "double_cup(table,other) stretch_of(worth,start) cup_of_levels(many,levels) turning_ring(many)"
    ),
    "orders": "last_unlike(a,b) first_unlike(a,b) settled_from(a,b) last_order(cup) settled_count(cup)",
    "telling": (
        "test_rows(tests) tellings(tests,die) tell_all(tests) unlike_pair(tests) one_faced_tests(ranks,tested)"
        " die_told(ranks,number,tested,leads) fewest_tests(ranks) tells_number(ranks,number,tested)"
        " twins(ranks,number,tested)"
    ),
    "following": "follows_from(tests,die) follow_weights(tests,die) split_pair(tests,die)",
    "ranges": (
        "Span(low,high,low_die,high_die,low_weights,high_weights) lead_range(tests,leads,die)"
        " die_between(tests,leads,die,value) no_shares(tests,leads)"
    ),
    "hidden": "Hidden(ranks,number)",
    "desks": "Desk(cup)",
    "trials": "Trial(desk) tried(desk,deeds)",
    "listing": "leads_on(cup) listing(cup) lead_square(cup)",
}
METHODS = {
    "cups Cup": (
        "of_word(word,many) checked(dice) taken(self,numbers) with_die(self,die) spread(self,times) scaled(self,row)"
        " wide(self) is_deck(self)"
    ),
    "weighing Weighing": "worth(self,table) short(self) is_below_all(self,table)",
    "weighing Mix": "short(self) taken_dice(self) thrown_in(self,cup) ties_with_all(self,table)",
    "paths Answer": "shows(self,cup,rows)",
    "paths Found": "shows(self,cup,rows)",
    "paths Barred": "shows(self,cup,rows)",
    "webs Web": (
        "share(self,number) loss(self,number) losses(self) related(self,number,point,other) cut(self,kept,weights)"
        " of_cup(cup) drawn_row(lots,relations) __eq__(self,other)"
    ),
    "many Greatest": "__call__(self,die)",
    "many Least": "__call__(self,die)",
    "hidden Hidden": "tell(self,test,lead) lead_on(self,die) settled(self) found_die(self)",
    "desks Desk": (
        "put(self,die) drop(self,number) raise_face(self,number,rank) stack_on(self,cup) blend(self,weights)"
        " throw_many(self,count) scale(self,row) turn_round(self) back(self) to_mark(self,number) table_now(self)"
        " ranks_needed(self) lone_mix(self) ring_place(self,numbers) third(self,first,second) settled_now(self)"
        " find_order(self)"
    ),
    "trials Trial": "begin(self) finish(self)",
}
PROPERTIES = {
    "cups Cup": "many", "paths Found": "whole", "hidden Hidden": "asked", "desks Desk": "cup_now done mark",
}
# a way to create an object of each class, and the attributes that are set then
OBJECTS = {
    "cups Cup": (([(1, 0)],), "dice ranks"),
    "programs Outcome": ((1, 2, 3, 4), "word total unknowns weights"),
    "weighing Weighing": (([1, -2],), "entries"),
    "weighing Mix": (([1, 2],), "entries"),
    "fewest Thrown": ((1, 2, 3), "cup times reason"),
    "paths Answer": ((3,), "size"),
    "paths Found": (((1, 0, 2),), "die size number"),
    "paths Barred": ((3, (1, 0)), "size weights"),
    "most Most": ((1, 2, 3), "die value weights"),
    "webs Web": (([[1], [1]], [[], []]), "lots relations size"),
    "many Greatest": ((3,), "count"),
    "many Least": ((3,), "count"),
    "ranges Span": ((1, 2, 3, 4, 5, 6), "low high low_die high_die low_weights high_weights"),
    "hidden Hidden": ((3, 2), "ranks number"),
    "trials Trial": ((None,), "desk ended"),
}
ALL_MODULES = (
    "errors amounts fractions_of dice throws cups tables texts reaching making words exchanges pairing putting linear"
    " programs weighing planes fewest slopes best sorting single pfaffs paths further most follows chains rings cutting"
    " closed ends webs walks barring cuts joins many doubling orders telling following ranges hidden desks trials listing"
)


def parameters_of(found):
    """The parameters as they are listed, a star for those behind it that are passed by name."""
    told = []
    for each in inspect.signature(found).parameters.values():
        if each.kind is each.KEYWORD_ONLY and "*" not in told:
            told.append("*")
        told.append(str(each).replace(" ", ""))
    return ",".join(told)


class InterfaceTest(unittest.TestCase):
    def test_names_and_parameters(self):
        for stem, listed in NAMES.items():
            module = importlib.import_module(f"dicewins.{stem}")
            for entry in listed.split():
                name, _, parameters = entry.removesuffix(")").partition("(")
                found = getattr(module, name)
                self.assertEqual(found.__module__, f"dicewins.{stem}")
                self.assertEqual(parameters_of(found), parameters, entry)

    def test_methods_stand_in_their_classes(self):
        for place, listed in METHODS.items():
            stem, _, kind = place.partition(" ")
            owner = getattr(importlib.import_module(f"dicewins.{stem}"), kind)
            for entry in listed.split():
                name, _, parameters = entry.removesuffix(")").partition("(")
                self.assertIn(name, vars(owner), entry)
                self.assertEqual(parameters_of(getattr(owner, name)), parameters, entry)

    def test_attributes_are_set_at_once(self):
        for place, (told, names) in OBJECTS.items():
            stem, _, kind = place.partition(" ")
            found = getattr(importlib.import_module(f"dicewins.{stem}"), kind)(*told)
            self.assertLessEqual(set(names.split()), set(vars(found)), place)

    def test_properties_stand_in_their_classes(self):
        for place, listed in PROPERTIES.items():
            stem, _, kind = place.partition(" ")
            owner = getattr(importlib.import_module(f"dicewins.{stem}"), kind)
            for name in listed.split():
                self.assertIsInstance(vars(owner)[name], property)

    def test_every_module_of_the_document_is_there(self):
        self.assertEqual(len(NAMES) + 1, len(ALL_MODULES.split()))
        self.assertEqual(set(NAMES) | {"errors"}, set(ALL_MODULES.split()))


if __name__ == "__main__":
    unittest.main()
