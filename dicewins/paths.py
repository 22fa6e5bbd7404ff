"""What one more die can do against the dice of a cup, and the kinds of answers to what is asked of it."""

from dicewins.amounts import check_int, is_row, set_of
from dicewins.cups import Cup
from dicewins.dice import die_of, running_counts
from dicewins.errors import BadDie, BadKind, BadSet, OtherSize
from dicewins.throws import lead, paired_sum
from dicewins.weighing import check_lengths, entries_of


def gain_row(die):
    """The leads of one face at each gap over the die, as a list, for a tuple that is known to be a die."""
    counts = running_counts(die)
    return [2 * count - counts[-1] for count in counts]


def gains(cup):
    """For each gap the leads of one face there over the dice."""
    rows = [gain_row(die) for die in Cup.checked(cup)]
    return tuple(zip(*rows))


def leads_over(cup, die):
    """The leads of a further die over the dice of the cup."""
    wide = Cup(cup).wide()
    more = die_of(die)
    check_lengths(wide.dice[0], more)
    return tuple([lead(more, other) for other in wide.dice])


def at_gaps(die):
    """A further die with faces at gaps alone that has twice the faces and twice the leads."""
    entries = die_of(die)
    if len(entries) & 1 == 0 or len(entries) == 1:
        raise BadDie(-1)
    found = [0] * len(entries)
    for rank, entry in enumerate(entries):
        # at a gap both halves stay there, at a rank of the cup they go to the gaps on its two sides
        found[rank - (rank & 1)] += entry
        found[rank + (rank & 1)] += entry
    return tuple(found)


def kind_of(beating, losing, tying, many):
    """The three sets of a kind for many dice."""
    kind = (set_of(beating, many), set_of(losing, many), set_of(tying, many))
    told = [number for part in kind for number in part]
    twice = [number for number in range(many) if told.count(number) > 1]
    if twice:
        raise BadKind(twice[0])
    if not kind[0] and not kind[1]:
        raise BadKind(-1)
    return kind


def asked_of(cup, rows, size):
    """The dice of the cup and the kind that is asked of further dice on so many ranks."""
    dice = Cup.checked(cup)
    if not is_row(rows) or len(rows) != 3:
        raise BadSet(-1)
    kind = kind_of(rows[0], rows[1], rows[2], len(dice))
    if size != 2 * len(dice[0]) + 1:
        raise OtherSize(2 * len(dice[0]) + 1, size)
    return dice, kind


def is_bar(dice, kind, weights):
    """True if the weights are a bar against the kind."""
    beating, losing, tying = kind
    asked = beating + losing
    if any([weight for number, weight in enumerate(weights) if number not in asked and number not in tying]):
        return False
    parts = [weights[number] for number in asked]
    if min(parts) < 0 or max(parts) == 0:
        return False
    signed = [-weight if number in losing else weight for number, weight in enumerate(weights)]
    counts = [running_counts(die) for die in dice]
    sums = [paired_sum(column, signed) for column in zip(*counts)]
    return max(sums) <= 0 and sums[-1] == 0


class Answer:
    """What is said of further dice on so many ranks."""

    WORD = "answer"

    def __init__(self, size):
        self.size = check_int(size, "size", 1)

    def shows(self, cup, rows):
        """True if the answer shows whether a further die of the kind is there, which this one never does."""
        asked_of(cup, rows, self.size)
        return False


class Found(Answer):
    """A further die."""

    WORD = "found"

    def __init__(self, die, number=1):
        self.die = die_of(die)
        Answer.__init__(self, len(self.die))
        self.number = check_int(number, "number", 1)

    @property
    def whole(self):
        """How many times the number goes into the number of faces."""
        return sum(self.die) // self.number

    def shows(self, cup, rows):
        """True if the die is of the kind."""
        dice, kind = asked_of(cup, rows, self.size)
        leads = leads_over(dice, self.die)
        if any([leads[number] for number in kind[2]]):
            return False
        return all([leads[number] > 0 for number in kind[0]]) and all([leads[number] < 0 for number in kind[1]])


class Barred(Answer):
    """Weights that show that no further die is there."""

    WORD = "barred"

    def __init__(self, size, weights):
        Answer.__init__(self, size)
        self.weights = entries_of(weights)

    def shows(self, cup, rows):
        """True if the weights are a bar against the kind."""
        dice, kind = asked_of(cup, rows, self.size)
        check_lengths(dice, self.weights)
        return is_bar(dice, kind, self.weights)
