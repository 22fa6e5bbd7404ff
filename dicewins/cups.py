"""Cups: rows of dice on common ranks, and the cups that are made of them."""

from dicewins.amounts import check_int, is_int, is_row, picked_numbers, weights_of
from dicewins.dice import die_of, wrong_place
from dicewins.errors import BadCup, BadNumber, BadWord, OtherSize


def letters_of(word, many):
    """The word over many dice, as a tuple."""
    if not is_row(word):
        raise BadWord(-1)
    for place, letter in enumerate(word):
        if not is_int(letter) or not 0 <= letter < many:
            raise BadWord(place)
    if len(set(word)) < many:
        raise BadWord(-2)
    return tuple(word)


def shared_rank(dice):
    """The lowest rank at which two of the dice have faces, None if there is none."""
    for rank, entries in enumerate(zip(*dice)):
        if entries.count(0) < len(entries) - 1:
            return rank
    return None


def stretched(die, times):
    """The die in which each rank has become so many neighbouring ones."""
    return [entry for entry in die for _ in range(times)]


def with_gaps(die):
    """The die on the wide ranks."""
    return [0] + [entry for pair in zip(die, [0] * len(die)) for entry in pair]


class Cup:
    """A row of dice on one number of ranks. It does not change."""

    SIGN = "cup"

    def __init__(self, dice):
        self.dice = Cup.checked(dice)
        self.ranks = len(self.dice[0])

    @staticmethod
    def checked(dice):
        """The dice of a Cup or of a row of dice, a tuple of tuples."""
        if isinstance(dice, Cup):
            return dice.dice
        if not is_row(dice) or not dice:
            raise BadCup(-1)
        for number, row in enumerate(dice):
            if wrong_place(row) is not None or len(row) != len(dice[0]):
                raise BadCup(number)
        return tuple([tuple(row) for row in dice])

    @classmethod
    def of_word(cls, word, many):
        """The cup of a word over many dice."""
        check_int(many, "many", 1)
        letters = letters_of(word, many)
        return cls([[1 if letter == number else 0 for letter in letters] for number in range(many)])

    @property
    def many(self):
        """The number of dice."""
        return len(self.dice)

    def __len__(self):
        return len(self.dice)

    def __getitem__(self, at):
        if not is_int(at) or not 0 <= at < len(self.dice):
            raise BadNumber("die")
        return self.dice[at]

    def __iter__(self):
        return iter(self.dice)

    def __contains__(self, x):
        return wrong_place(x) is None and tuple(x) in self.dice

    def __eq__(self, other):
        return isinstance(other, Cup) and self.dice == other.dice

    def __add__(self, other):
        return stacked(self, other)

    def __invert__(self):
        return Cup([die[::-1] for die in self.dice])

    def __mul__(self, other):
        check_int(other, "times", 1)
        return Cup([[entry * other for entry in die] for die in self.dice])

    def taken(self, numbers):
        """The Cup of the dice with these numbers, in the order of the row."""
        return Cup([self.dice[number] for number in picked_numbers(numbers, len(self.dice))])

    def with_die(self, die):
        """The Cup with one more die, the last one."""
        more = die_of(die)
        if len(more) != self.ranks:
            raise OtherSize(self.ranks, len(more))
        return Cup(self.dice + (more,))

    def spread(self, times):
        """The Cup in which each rank has become so many neighbouring ones."""
        check_int(times, "times", 1)
        return Cup([stretched(die, times) for die in self.dice])

    def scaled(self, row):
        """The Cup in which each die is multiplied by its own integer."""
        factors = weights_of(row, len(self.dice), 1)
        return Cup([[entry * factor for entry in die] for die, factor in zip(self.dice, factors)])

    def wide(self):
        """The Cup with an empty rank for each gap."""
        return Cup([with_gaps(die) for die in self.dice])

    def is_deck(self):
        """True if no rank has faces of two dice."""
        return shared_rank(self.dice) is None


def stacked(*cups):
    """The Cup of the cups laid one on another, the first one lowest."""
    if not cups:
        raise BadCup(-1)
    parts = [Cup.checked(cup) for cup in cups]
    for part in parts:
        if len(part) != len(parts[0]):
            raise OtherSize(len(parts[0]), len(part))
    return Cup([[entry for die in column for entry in die] for column in zip(*parts)])
