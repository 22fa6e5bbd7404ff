"""The greatest and the least of many throws of a die."""

from dicewins.amounts import check_between
from dicewins.cups import Cup
from dicewins.dice import die_of, running_counts
from dicewins.throws import chance
from dicewins.words import exchange_place, own_word


def check_count(count, name):
    """The count, if it is a count of throws."""
    return check_between(count, name, 1, 4000)


def power(base, count):
    """The base to the power of a count of at least 1."""
    found = 1
    square = base
    left = count
    while left > 1:
        if left & 1:
            found = found * square
        square = square * square
        left = left // 2
    return found * square


def greatest_of(die, count):
    """The greatest of so many throws, for a tuple that is known to be a die."""
    found = []
    low = 0
    high = 0
    for entry, counted in zip(die, running_counts(die)[1:]):
        if entry:
            high = power(counted, count)
        found.append(high - low)
        low = high
    return tuple(found)


def least_of(die, count):
    """The least of so many throws, for a tuple that is known to be a die."""
    return greatest_of(die[::-1], count)[::-1]


def greatest_die(die, count):
    """The die whose faces stand for the greatest of so many throws of the die."""
    entries = die_of(die)
    return greatest_of(entries, check_count(count, "count"))


def least_die(die, count):
    """The die whose faces stand for the least of so many throws of the die."""
    entries = die_of(die)
    return least_of(entries, check_count(count, "count"))


class Greatest:
    """The greatest of a count of throws, for one die after another."""

    def __init__(self, count):
        self.count = check_count(count, "count")

    def __call__(self, die):
        return greatest_die(die, self.count)


class Least:
    """The least of a count of throws, for one die after another."""

    def __init__(self, count):
        self.count = check_count(count, "count")

    def __call__(self, die):
        return least_die(die, self.count)


def many_cup(cup, count, *, least=False):
    """The Cup of the greatest of so many throws of each die, or of the least of them."""
    dice = Cup.checked(cup)
    check_count(count, "count")
    return Cup([least_of(die, count) if least else greatest_of(die, count) for die in dice])


def chance_of_two(a, count, b, other):
    """The chance of the greatest of count throws of a over the greatest of other throws of b."""
    one = die_of(a)
    check_count(count, "count")
    two = die_of(b)
    check_count(other, "other")
    return chance(greatest_of(one, count), greatest_of(two, other))


def exchange_gain(word, at, count):
    """What the exchange at the place adds to the lead for count throws of the letter that stands first there."""
    letters = own_word(word)
    place = exchange_place(letters, at)
    check_count(count, "count")
    first = letters[:place].count(letters[place])
    second = letters[:place].count(letters[place + 1])
    mine = power(first + 1, count) - power(first, count)
    return 2 * mine * (power(second + 1, count) - power(second, count))
