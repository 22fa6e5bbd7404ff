"""The errors of the package: each keeps what it is raised with under the names of its parameters."""


class DiceError(ValueError):
    """The base of all errors of the package."""


class BadNumber(DiceError):
    """An integer, fraction or chance is of a wrong kind or out of its bounds."""

    def __init__(self, name):
        self.name = name


class BadDie(DiceError):
    """A row is no die."""

    def __init__(self, place):
        self.place = place


class BadCup(DiceError):
    """A value is no cup."""

    def __init__(self, place):
        self.place = place


class BadTable(DiceError):
    """A value is no skew table."""

    def __init__(self, place):
        self.place = place


class BadWeights(DiceError):
    """A row of integers is wrong."""

    def __init__(self, place):
        self.place = place


class BadWord(DiceError):
    """A row of letters is no word, or is not alike to another one."""

    def __init__(self, place):
        self.place = place


class NotDeck(DiceError):
    """Two dice of a cup have faces at one rank."""

    def __init__(self, rank):
        self.rank = rank


class OtherSize(DiceError):
    """Two sizes that must be equal are not."""

    def __init__(self, first, second):
        self.first = first
        self.second = second


class BadSet(DiceError):
    """A row is no set of dice."""

    def __init__(self, place):
        self.place = place


class BadKind(DiceError):
    """Three sets of dice are no kind, or one die does not stand to another one as it must."""

    def __init__(self, die):
        self.die = die


class BadWeb(DiceError):
    """A lot, a relation or a cut of a web is wrong."""

    def __init__(self, lot):
        self.lot = lot


class TooMany(DiceError):
    """An argument is right, but more than the function can take."""

    def __init__(self, name):
        self.name = name


class TrialEnded(DiceError):
    """A trial has been begun or finished before."""


class NothingBack(DiceError):
    """No deed is there that could be taken back."""


class BadText(DiceError):
    """A string is not the text of a cup."""

    def __init__(self, line):
        self.line = line
