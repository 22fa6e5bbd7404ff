"""Chains of losses, their rests, and the turns of a row of chances."""

from dicewins.amounts import is_row
from dicewins.errors import BadNumber
from dicewins.fractions_of import lowest, taken_off, told_chance


def chance_row(row, name, least):
    """A row of at least so many told chances, as a list."""
    if not is_row(row) or len(row) < least:
        raise BadNumber(name)
    return [told_chance(entry, name) for entry in row]


def next_rest(rest, loss):
    """The rest behind a rest above 0, for fractions in lowest terms."""
    return lowest(loss[1] * rest[0] - loss[0] * rest[1], loss[1] * rest[0])


def rest_row(losses):
    """The rests of losses that are known to be fractions in lowest terms, as a list."""
    found = [(1, 1)]
    for loss in losses:
        if found[-1][0] <= 0:
            break
        found.append(next_rest(found[-1], loss))
    return found


def rests(losses):
    """The rests b_0, b_1, .. of the losses, as many as there are."""
    return tuple(rest_row(chance_row(losses, "losses", 0)))


def closes_at(losses):
    """The place at which the chain of the losses closes, None if it does not close."""
    found = rests(losses)
    return len(found) - 1 if found[-1][0] <= 0 else None


def rest_of(losses):
    """The rest of the chain of the losses, None if it closes."""
    last = rests(losses)[-1]
    return last if last[0] > 0 else None


def turns(chances):
    """Turn 0, turn 1, .. of the chances."""
    losses = [taken_off(1, chance) for chance in chance_row(chances, "chances", 2)]
    for start in range(len(losses)):
        yield tuple(losses[start:] + losses[:start])


def closing_turn(chances):
    """The least closing turn of the chances and the place where it closes, None if no turn closes."""
    for start, losses in enumerate(turns(chances)):
        place = closes_at(losses)
        if place is not None:
            return (start, place)
    return None
