"""Trials: stretches of deeds that leave nothing behind on a desk."""

from dicewins.amounts import is_row
from dicewins.errors import BadNumber, TrialEnded

DEEDS = {
    "put": 1,
    "drop": 1,
    "raise_face": 2,
    "stack_on": 1,
    "blend": 1,
    "throw_many": 1,
    "scale": 1,
    "turn_round": 0,
    "back": 0,
    "to_mark": 1,
}


class Trial:
    """A stretch of deeds of a desk, behind which the desk is as it was before."""

    def __init__(self, desk):
        self.desk = desk
        self.ended = False
        # the row of the cups of the desk at the beginning, None unless the trial goes on
        self.before = None

    def begin(self):
        """The desk, whose deeds are on trial from now on."""
        if self.ended or self.before is not None:
            raise TrialEnded()
        self.before = self.desk.kept
        return self.desk

    def finish(self):
        # the deeds of a desk never change the row of its cups, so the old row is all that is needed
        if self.before is not None:
            self.desk.kept = self.before
        self.before = None
        self.ended = True

    def __enter__(self):
        return self.begin()

    def __exit__(self, kind, value, trace):
        self.finish()


def is_deed(row):
    """True if it is a row of the name of a deed and as many arguments as that takes."""
    if not is_row(row) or not row or not isinstance(row[0], str):
        return False
    return row[0] in DEEDS and len(row) - 1 == DEEDS[row[0]]


def news_of(desk, name, told):
    """What the method of the desk returns."""
    if name == "put":
        return desk.put(*told)
    if name == "drop":
        return desk.drop(*told)
    if name == "raise_face":
        return desk.raise_face(*told)
    if name == "stack_on":
        return desk.stack_on(*told)
    if name == "blend":
        return desk.blend(*told)
    if name == "throw_many":
        return desk.throw_many(*told)
    if name == "scale":
        return desk.scale(*told)
    if name == "turn_round":
        return desk.turn_round()
    if name == "back":
        return desk.back()
    return desk.to_mark(*told)


def tried(desk, deeds):
    """What the deeds return, done one after another in a trial."""
    if not is_row(deeds) or not all([is_deed(row) for row in deeds]):
        raise BadNumber("deeds")
    with Trial(desk) as held:
        return [news_of(held, row[0], row[1:]) for row in deeds]
