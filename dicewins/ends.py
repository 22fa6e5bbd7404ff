"""The greatest chance that can end a ring, and rings whose half chances are just the told ones."""

from dicewins.chains import chance_row, rest_row
from dicewins.fractions_of import divided, in_integers, is_less, multiplied, taken_off
from dicewins.making import one_rank
from dicewins.reaching import cup_of_ranks
from dicewins.rings import ring_for


def lacking(row):
    """What each fraction of the row lacks of 1, as a list."""
    return [taken_off(1, part) for part in row]


def cut_products(losses):
    """For each cut the product of the rests on its two sides, None if the chain of the losses closes."""
    if rest_row(losses)[-1][0] <= 0:
        return None
    found = []
    for cut in range(len(losses) + 1):
        behind = rest_row(losses[cut:])[-1]
        ahead = rest_row(losses[:cut][::-1])[-1]
        found.append(multiplied(behind, ahead))
    return found


def least_cut(losses):
    """The best cut for the losses and its product; cut 0 and the product 0 if their chain closes."""
    products = cut_products(losses)
    if products is None:
        return 0, (0, 1)
    cut = 0
    for number, product in enumerate(products):
        if is_less(product, products[cut]):
            cut = number
    return cut, products[cut]


def greatest_end(row):
    """The last chance behind chances that are known to be fractions in lowest terms."""
    _, product = least_cut(lacking(row))
    return taken_off(1, product)


def last_chance(chances):
    """The greatest chance that can be put behind the chances, so that there is a ring for them."""
    return greatest_end(chance_row(chances, "chances", 1))


def best_cut(chances):
    """The die at which the ring with the last chance is cut, None if the chain of all losses closes."""
    losses = lacking(chance_row(chances, "chances", 1))
    return None if rest_row(losses)[-1][0] <= 0 else least_cut(losses)[0]


def last_ring(chances):
    """The ring for the chances and their last chance behind them."""
    told = chance_row(chances, "chances", 1)
    return ring_for(told + [greatest_end(told)])


def span_of(row):
    """The least and the greatest half chance behind chances in lowest terms that are met exactly."""
    return taken_off(1, greatest_end(lacking(row))), greatest_end(row)


def last_span(chances):
    """The least and the greatest half chance of the last die over die 0 where the chances are met exactly."""
    return span_of(chance_row(chances, "chances", 1))


def nested_parts(losses, first):
    """The parts (die, part) of the dice from the first on, lowest first, each one just above and below the last."""
    found = [(first, (1, 1))]
    for number in range(first + 1, len(losses)):
        loss = losses[number - 1]
        found = [(number, taken_off(1, loss))] + found + [(number, loss)]
    return found


def turn_parts(losses):
    """The parts (die, part) of dice that meet the losses of a turn that closes exactly, lowest first.

    The last loss is met exactly where the chain closes at its end with the rest 0, or where that loss is 0
    and the chain closes ahead of it. A die loses to the next one where it is low while the next one is high.
    The die at which the chain closes is high at all times, and so are those behind it; so the die ahead of it
    loses too little by being low, and has a middle part below it for what is lacking.
    """
    rests = rest_row(losses)
    place = len(rests) - 1
    low = [(number, rests[number]) for number in range(place)]
    high = [(number, taken_off(1, rests[number])) for number in range(place - 1)]
    middle = [(place - 1, taken_off(losses[place - 1], rests[place - 1]))]
    upper = [(place - 1, taken_off(1, losses[place - 1]))]
    nested = nested_parts(losses, place) if place < len(losses) else []
    return low[::-1] + middle + nested + upper + high[::-1]


def top_parts(row):
    """The parts (die, part) of dice that meet the chances exactly, with the last chance behind them."""
    losses = lacking(row)
    many = len(row) + 1
    cut, product = least_cut(losses)
    parts = turn_parts(losses[cut:] + [product] + losses[:cut])
    return [((cut + number) % many, part) for number, part in parts]


def lowered_parts(row, last):
    """The parts of dice that meet the chances exactly, with a chance behind them that is the loss of the last
    chance of the row at least, and the last chance for the row at most.

    So much of the last die is laid round all dice that it wins as seldom as is told.
    """
    outer = taken_off(1, row[-1])
    room = taken_off(greatest_end(row), outer)
    inner = divided(taken_off(last, outer), room) if room[0] else (1, 1)
    rest = taken_off(1, inner)
    number = len(row)
    found = [(number, multiplied(rest, row[-1]))]
    for die, part in top_parts(row):
        found.append((die, multiplied(inner, part) if die == number else part))
    return found + [(number, multiplied(rest, outer))]


def deck_of_parts(many, parts):
    """The deck whose dice have these parts (die, part) of their faces at its ranks, lowest first."""
    held = [(number, part) for number, part in parts if part[0]]
    ranks = []
    counts = [list(in_integers([part for die, part in held if die == number])[0]) for number in range(many)]
    for number, _ in held[::-1]:
        ranks.append(one_rank(many, number, counts[number].pop()))
    return cup_of_ranks(ranks[::-1])


def exact_ring(chances):
    """A Cup whose half chances round the ring are just the told ones, None if there is none."""
    told = chance_row(chances, "chances", 2)
    row = told[:-1]
    last = told[-1]
    low, high = span_of(row)
    if is_less(last, low) or is_less(high, last):
        return None
    outer = taken_off(1, row[-1])
    if is_less(last, outer):
        parts = lowered_parts(lacking(row), taken_off(1, last))
        return deck_of_parts(len(told), parts[::-1])
    return deck_of_parts(len(told), lowered_parts(row, last))
