"""Rings: cups in which each die has a told chance at least over the next one."""

from dicewins.amounts import check_int
from dicewins.chains import chance_row, closing_turn, next_rest, rest_row
from dicewins.cups import Cup
from dicewins.errors import TooMany
from dicewins.fractions_of import divided, in_integers, is_less, taken_off, told_chance
from dicewins.making import one_rank
from dicewins.reaching import cup_of_ranks
from dicewins.throws import chances_round
from dicewins.weighing import check_lengths


def split_faces(losses, rests):
    """For each die behind the first one and ahead of the place where the chain closes its faces, low and high."""
    found = []
    for number in range(1, len(rests) - 1):
        parts = (rests[number], divided(losses[number - 1], rests[number - 1]))
        found.append(in_integers(parts)[0])
    return found


def ring_steps(many, losses):
    """The ranks of a ring for losses that close, lowest first, as pairs (die, count) from the first die on.

    A split die loses to the next one just where it is low itself while the next one is high, or at its one
    rank. The one-faced dice behind the split ones beat one another and then the first die at all times.
    """
    rests = rest_row(losses)
    split = split_faces(losses, rests)
    low = [(number, part[0]) for number, part in enumerate(split, 1)]
    high = [(number, part[1]) for number, part in enumerate(split, 1) if part[1]]
    whole = [(number, 1) for number in range(len(rests) - 1, many)]
    return low[::-1] + [(0, 1)] + whole[::-1] + high[::-1]


def ring_for(chances, *, half=False):
    """A deck that is a ring for the chances, and a half ring as well; None if there is none."""
    turn = closing_turn(chances)
    if turn is None:
        return None
    losses = [taken_off(1, told) for told in chance_row(chances, "chances", 2)]
    many = len(losses)
    start = turn[0]
    steps = ring_steps(many, losses[start:] + losses[:start])
    return cup_of_ranks([one_rank(many, (start + number) % many, count) for number, count in steps])


def is_ring(cup, chances, *, half=False):
    """True if the cup is a ring for the chances, or a half ring for them with half."""
    dice = Cup.checked(cup)
    told = chance_row(chances, "chances", 2)
    check_lengths(dice, told)
    return not any([is_less(found, least) for found, least in zip(chances_round(dice, half), told)])


def equal_ring(many, chance):
    """The ring of many dice with one chance for all, None if there is none."""
    check_int(many, "many", 2)
    return ring_for([told_chance(chance, "chance")] * many)


def least_many(chance):
    """The least number of dice of a ring with one chance for all, None if there is none."""
    told = told_chance(chance, "chance")
    if not is_less(told, (3, 4)):
        return None
    if is_less((74, 100), told):
        raise TooMany("chance")
    loss = taken_off(1, told)
    rest = (1, 1)
    place = 0
    while rest[0] > 0:
        rest = next_rest(rest, loss)
        place += 1
    return max(2, place)
