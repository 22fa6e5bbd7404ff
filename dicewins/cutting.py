"""Dice of a ring cut to faces at two ranks, with no chance round the ring made less."""

from dicewins.amounts import check_between, shortened
from dicewins.cups import Cup
from dicewins.dice import running_counts
from dicewins.errors import BadCup
from dicewins.fractions_of import lowest


def ring_dice(cup):
    """The dice of a cup of two dice or more."""
    dice = Cup.checked(cup)
    if len(dice) == 1:
        raise BadCup(-1)
    return dice


def ring_and_number(cup, number):
    """The dice of a cup of two dice or more, and the number of one of them."""
    dice = ring_dice(cup)
    return dice, check_between(number, "number", 0, len(dice) - 1)


def counts_of(dice, number):
    """For each rank with faces of the die (rank, won, lost), ascending.

    won is the number of faces of the next die that a face at the rank beats, lost the number of faces of
    the die ahead that beat it.
    """
    following = running_counts(dice[(number + 1) % len(dice)])
    ahead = running_counts(dice[number - 1])
    return [(rank, following[rank], ahead[-1] - ahead[rank + 1]) for rank, entry in enumerate(dice[number]) if entry]


def points_of(cup, number):
    """The chances (rank, to, by) of one-faced dice at the ranks of the die, over the next die and of the die ahead."""
    dice, place = ring_and_number(cup, number)
    over = sum(dice[(place + 1) % len(dice)])
    under = sum(dice[place - 1])
    return [(rank, lowest(won, over), lowest(lost, under)) for rank, won, lost in counts_of(dice, place)]


def outer_points(points):
    """Those of the points (rank, won, lost) that stick out where much is won and much is lost, ascending.

    Of points with one number won the first one has the most lost, since fewer lose to a higher rank.
    """
    found = []
    for point in points:
        if found and found[-1][1] == point[1]:
            continue
        while len(found) > 1 and not is_outer(found[-2], found[-1], point):
            found.pop()
        found.append(point)
    return found


def is_outer(first, middle, last):
    """True if the middle point is above the line from the first to the last point."""
    rise = (middle[2] - first[2]) * (last[1] - first[1])
    return rise > (last[2] - first[2]) * (middle[1] - first[1])


def cut_die(dice, number):
    """The die that the die is cut to."""
    die = dice[number]
    points = counts_of(dice, number)
    if len(points) <= 2:
        return die
    count = sum(die)
    won = sum([die[rank] * worth for rank, worth, _ in points])
    outer = outer_points(points)
    low = [point for point in outer if point[1] * count <= won][-1]
    found = [0] * len(die)
    if low[1] * count == won:
        found[low[0]] = 1
        return tuple(found)
    # the two ranks are met so often that as much is won as before
    high = [point for point in outer if point[1] * count > won][0]
    found[low[0]] = high[1] * count - won
    found[high[0]] = won - low[1] * count
    return shortened(found)


def with_cut(dice, number):
    """The dice, of which the numbered one is cut."""
    return dice[:number] + (cut_die(dice, number),) + dice[number + 1:]


def cut_ring(cup, number):
    """The Cup with this die cut."""
    dice, place = ring_and_number(cup, number)
    return Cup(with_cut(dice, place))


def cut_all(cup):
    """The Cup after each die has been cut in turn."""
    dice = ring_dice(cup)
    for number in range(len(dice)):
        dice = with_cut(dice, number)
    return Cup(dice)
