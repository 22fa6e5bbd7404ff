"""Exchanges of neighbouring letters, and the ways that they lead from one word to another."""

from dicewins.amounts import check_between
from dicewins.errors import BadWord, OtherSize
from dicewins.words import own_word, turned_at


def check_alike(one, two):
    """Nothing, if the two checked words are alike."""
    if len(one) != len(two):
        raise OtherSize(len(one), len(two))
    if sorted(one) != sorted(two):
        raise BadWord(-3)


def two_words(word, other):
    """Two alike words, as tuples."""
    one = own_word(word)
    two = own_word(other)
    check_alike(one, two)
    return one, two


def goals_of(one, two):
    """For each letter of the first word, the place at which the same face stands in the second one."""
    here = sorted([(letter, place) for place, letter in enumerate(one)])
    there = sorted([(letter, place) for place, letter in enumerate(two)])
    goals = [0] * len(one)
    for mine, other in zip(here, there):
        goals[mine[1]] = other[1]
    return tuple(goals)


def count_turned(goals):
    """The number of pairs of places whose goals stand the other way round."""
    count = 0
    for place, goal in enumerate(goals):
        count += len([later for later in goals[place + 1:] if later < goal])
    return count


def turned_place(goals):
    """The first place whose goal is above that of the next place, None if there is none."""
    for place in range(len(goals) - 1):
        if goals[place] > goals[place + 1]:
            return place
    return None


def way_from(word, goals, number):
    """The words of so many exchanges towards the goals, the first word included."""
    way = [word]
    for _ in range(number):
        place = turned_place(goals)
        goals = turned_at(goals, place)
        way.append(turned_at(way[-1], place))
    return way


def counts_ahead(word, many):
    """For each number of a die the row that tells how many of its letters stand ahead of each place."""
    rows = []
    for number in range(many):
        row = []
        count = 0
        for letter in word:
            row.append(count)
            if letter == number:
                count += 1
        rows.append(row)
    return rows


def places_of(word, many):
    """For each number of a die the places of its letters, ascending."""
    rows = [[] for _ in range(many)]
    for place, letter in enumerate(word):
        rows[letter].append(place)
    return rows


def cells_between(word, other, first, second):
    """The cells between the two words for the two dice, ascending."""
    one, two = two_words(word, other)
    many = max(one) + 1
    check_between(first, "first", 0, many - 1)
    check_between(second, "second", first + 1, many - 1)
    ahead_in_one = counts_ahead(one, many)[second]
    ahead_in_two = counts_ahead(two, many)[second]
    cells = []
    for x, (here, there) in enumerate(zip(places_of(one, many)[first], places_of(two, many)[first])):
        low, high = sorted([ahead_in_one[here], ahead_in_two[there]])
        cells.extend([(x, y) for y in range(low, high)])
    return cells


def fewest_exchanges(word, other):
    """The least number of exchanges from the one word to the other."""
    one, two = two_words(word, other)
    return count_turned(goals_of(one, two))


def exchange_way(word, other):
    """The words of a way of fewest exchanges, both ends included."""
    one, two = two_words(word, other)
    goals = goals_of(one, two)
    return way_from(one, goals, count_turned(goals))


def crossing_pair(word, other):
    """The first pair of dice at which the paths cross, None if there is none."""
    one, two = two_words(word, other)
    many = max(one) + 1
    ahead_in_one = counts_ahead(one, many)
    ahead_in_two = counts_ahead(two, many)
    places = [list(zip(*rows)) for rows in zip(places_of(one, many), places_of(two, many))]
    for first in range(many):
        for second in range(first + 1, many):
            mine = ahead_in_one[second]
            others = ahead_in_two[second]
            steps = [mine[here] - others[there] for here, there in places[first]]
            if min(steps) < 0 < max(steps):
                return (first, second)
    return None


def halfway(word, other, number):
    """The word at this place of a way of fewest exchanges."""
    one, two = two_words(word, other)
    goals = goals_of(one, two)
    check_between(number, "number", 0, count_turned(goals))
    return way_from(one, goals, number)[-1]
