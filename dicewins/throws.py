"""Two dice thrown against one another."""

from dicewins.dice import running_counts, two_dice
from dicewins.fractions_of import lowest


def rank_leads(die):
    """For each rank the lead of one face there over the die, for a tuple that is known to be a die."""
    counts = running_counts(die)
    return [low + high - counts[-1] for low, high in zip(counts, counts[1:])]


def paired_sum(row, worths):
    """The sum of the products of the entries at the same places."""
    return sum([entry * worth for entry, worth in zip(row, worths)])


def wins(first, second):
    """The number of pairs of faces that the first die wins."""
    one, two = two_dice(first, second)
    return paired_sum(one, running_counts(two))


def ties(first, second):
    """The number of pairs of faces at one rank."""
    one, two = two_dice(first, second)
    return paired_sum(one, two)


def lead(first, second):
    """The number of pairs that the first die wins less the number that it loses."""
    one, two = two_dice(first, second)
    return paired_sum(one, rank_leads(two))


def beats(first, second):
    """True if the lead of the first die is above 0."""
    return lead(first, second) > 0


def chance(first, second):
    """The part of the pairs that the first die wins."""
    one, two = two_dice(first, second)
    return lowest(paired_sum(one, running_counts(two)), sum(one) * sum(two))


def half_chance(first, second):
    """The part of the pairs that the first die wins, ties counted by half."""
    one, two = two_dice(first, second)
    pairs = sum(one) * sum(two)
    return lowest(pairs + paired_sum(one, rank_leads(two)), 2 * pairs)


def areas(first, second):
    """The areas at the ranks, which add up to the lead."""
    one, two = two_dice(first, second)
    mine = running_counts(one)
    others = running_counts(two)
    found = []
    for rank in range(len(one)):
        found.append(mine[rank + 1] * others[rank] - mine[rank] * others[rank + 1])
    return tuple(found)


def chances_round(dice, half):
    """The chances, or half chances, of each die over the next one and of the last one over the first, as a list."""
    following = dice[1:] + dice[:1]
    return [half_chance(die, other) if half else chance(die, other) for die, other in zip(dice, following)]
