"""Cups put in at the ranks of a cup."""

from dicewins.amounts import is_row
from dicewins.cups import Cup
from dicewins.errors import BadCup, OtherSize


def check_equal_faces(dice):
    """Nothing, if all dice have as many faces as the first one."""
    most = sum(dice[0])
    for die in dice:
        if sum(die) != most:
            raise OtherSize(most, sum(die))


def check_inner(dice, parts):
    """Nothing, if the cups in parts can be put in at the ranks of the dice."""
    if len(parts) != len(dice[0]):
        raise OtherSize(len(dice[0]), len(parts))
    for part in parts:
        if len(part) != len(dice):
            raise OtherSize(len(dice), len(part))
    for part in parts:
        if len(part[0]) != len(parts[0][0]):
            raise OtherSize(len(parts[0][0]), len(part[0]))
    check_equal_faces([die for part in parts for die in part])


def die_put_in(die, inner):
    """The die that has at each rank the inner die of this rank, times its entry there."""
    found = []
    for entry, other in zip(die, inner):
        found.extend([entry * count for count in other])
    return found


def put_in(cup, inner):
    """The Cup in which each rank of the cup has become the ranks of the cup in inner of its number."""
    dice = Cup.checked(cup)
    if not is_row(inner):
        raise BadCup(-1)
    parts = [Cup.checked(part) for part in inner]
    check_inner(dice, parts)
    columns = list(zip(*parts))
    return Cup([die_put_in(die, column) for die, column in zip(dice, columns)])


def thrown_again(cup):
    """The cup put in at each of its own ranks."""
    dice = Cup.checked(cup)
    check_equal_faces(dice)
    return Cup([die_put_in(die, [die] * len(die)) for die in dice])
