"""Which dice the best mixes take, and which lose to them."""

from dicewins.amounts import shortened
from dicewins.best import aimed_mix
from dicewins.tables import check_table
from dicewins.weighing import Mix, Weighing, short_table


def telling_mixes(rows):
    """For each die a short best Mix that takes it, or to which it loses, for a checked table."""
    left = short_table(rows)
    numbers = list(range(len(left)))
    found = []
    for number in numbers:
        # what the mix leads over the die, and once more its own part of the mix: one of the two is not 0
        aims = [-entry for entry in left[number]]
        aims[number] = 1
        found.append(aimed_mix(left, numbers, aims))
    return found


def sorted_mixes(table):
    """For each die a pair: "in" and a short best Mix that takes it, or "out" and one to which it loses."""
    mixes = telling_mixes(check_table(table))
    return tuple([("in" if mix.entries[number] else "out", mix) for number, mix in enumerate(mixes)])


def can_be_taken(table):
    """The set of the dice that some best mix takes."""
    return tuple([number for number, (word, _) in enumerate(sorted_mixes(table)) if word == "in"])


def summed_mix(rows):
    """A short best Mix that takes all dice that are in and beats all others, for a checked table."""
    weights = [mix.entries for mix in telling_mixes(rows)]
    return Mix(shortened([sum(column) for column in zip(*weights)]))


def full_mix(table):
    """A short best Mix that takes all dice that are "in" and to which all dice that are "out" lose."""
    return summed_mix(check_table(table))


def all_tie_mix(table):
    """A short Mix that takes all dice and ties with all, None if there is none."""
    mix = full_mix(table)
    return mix if min(mix.entries) > 0 else None


def none_against(table):
    """A short Weighing whose worth has no entry below 0 and is not all 0, None if there is none."""
    mix = full_mix(table)
    return None if min(mix.entries) > 0 else Weighing([-entry for entry in mix.entries])
