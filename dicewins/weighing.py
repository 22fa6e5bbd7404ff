"""Weighings and mixes of dice, and what tells whether some mix ties with all dice."""

from dicewins.amounts import is_int, is_row, shortened
from dicewins.cups import Cup
from dicewins.dice import mixed_die
from dicewins.errors import BadNumber, BadWeights, OtherSize
from dicewins.fractions_of import in_integers
from dicewins.programs import greatest_sum
from dicewins.tables import check_table
from dicewins.throws import paired_sum


def entries_of(value, low=None):
    """The entries of a Weighing, or of a row of at least one integer, as a tuple; none may be below low."""
    row = value.entries if isinstance(value, Weighing) else value
    if not is_row(row) or not row:
        raise BadWeights(-1)
    for place, entry in enumerate(row):
        if not is_int(entry) or (low is not None and entry < low):
            raise BadWeights(place)
    return tuple(row)


def mix_entries(value):
    """The weights of a mix, as a tuple."""
    row = entries_of(value, 0)
    if max(row) == 0:
        raise BadWeights(-1)
    return row


def table_for(table, entries):
    """The table, if it has as many dice as there are entries."""
    rows = check_table(table)
    if len(rows) != len(entries):
        raise OtherSize(len(rows), len(entries))
    return rows


def worth_row(rows, entries):
    """What each die leads over the weighing, as a list, for a table that is known to fit."""
    return [paired_sum(row, entries) for row in rows]


def check_lengths(first, second):
    """Nothing, if the two rows have one length."""
    if len(first) != len(second):
        raise OtherSize(len(first), len(second))


class Weighing:
    """A row of integers, one for each die. It does not change."""

    def __init__(self, entries):
        self.entries = entries_of(entries)

    def __len__(self):
        return len(self.entries)

    def __getitem__(self, at):
        if not is_int(at) or not 0 <= at < len(self.entries):
            raise BadNumber("die")
        return self.entries[at]

    def __iter__(self):
        return iter(self.entries)

    def __eq__(self, other):
        return isinstance(other, Weighing) and self.entries == other.entries

    def __add__(self, other):
        more = entries_of(other)
        check_lengths(self.entries, more)
        return Weighing([mine + entry for mine, entry in zip(self.entries, more)])

    def __sub__(self, other):
        less = entries_of(other)
        check_lengths(self.entries, less)
        return Weighing([mine - entry for mine, entry in zip(self.entries, less)])

    def __neg__(self):
        return Weighing([-entry for entry in self.entries])

    def __mul__(self, other):
        if not is_int(other):
            raise BadNumber("number")
        return Weighing([entry * other for entry in self.entries])

    def worth(self, table):
        """What each die of the table leads over the weighing, a Weighing."""
        return Weighing(worth_row(table_for(table, self.entries), self.entries))

    def short(self):
        """The weighing divided by the greatest common divisor of its entries."""
        return Weighing(shortened(self.entries))

    def is_below_all(self, table):
        """True if each die of the table leads over the weighing."""
        return min(worth_row(table_for(table, self.entries), self.entries)) > 0


class Mix(Weighing):
    """A weighing without entries below 0 that takes some die."""

    def __init__(self, entries):
        self.entries = mix_entries(entries)

    def short(self):
        """The mix divided by the greatest common divisor of its weights."""
        return Mix(shortened(self.entries))

    def taken_dice(self):
        """The set of the dice that the mix takes."""
        return tuple([number for number, weight in enumerate(self.entries) if weight])

    def thrown_in(self, cup):
        """The die of the mix in the cup."""
        dice = Cup.checked(cup)
        check_lengths(dice, self.entries)
        return mixed_die(self.entries, *dice)

    def ties_with_all(self, table):
        """True if each die of the table ties with the mix."""
        return not any(worth_row(table_for(table, self.entries), self.entries))


def short_table(rows):
    """The table divided by the greatest common divisor of its entries, which keeps what follows small."""
    many = len(rows)
    entries = shortened([entry for row in rows for entry in row])
    return [entries[many * number:many * (number + 1)] for number in range(many)]


def mix_or_below(rows):
    """A short Mix that ties with all if there is one, else a short Weighing below all, for a checked table."""
    many = len(rows)
    left = short_table(rows)
    turned = [[-entry for entry in row] for row in left]
    found = greatest_sum([1] * many, left + turned + [[1] * many], [0] * (2 * many) + [1])
    if found.total != (0, 1):
        return Mix(shortened(in_integers(found.unknowns)[0]))
    weights, _ = in_integers(found.weights)
    return Weighing(shortened([weights[many + number] - weights[number] for number in range(many)]))


def tie_mix(table):
    """A short Mix that ties with all, None if there is none."""
    found = mix_or_below(check_table(table))
    return found if isinstance(found, Mix) else None


def below_all(table):
    """A short Weighing below all, None if there is none."""
    found = mix_or_below(check_table(table))
    return None if isinstance(found, Mix) else found
