"""Webs without a round, and what their losses tell."""

from dicewins.chains import chance_row, closing_turn
from dicewins.fractions_of import taken_off
from dicewins.rings import ring_for
from dicewins.walks import is_barred
from dicewins.webs import Web


def must_meet(losses):
    """True if no turn of the losses closes, so that each web with losses of at most these has a round."""
    return closing_turn([taken_off(1, loss) for loss in chance_row(losses, "losses", 2)]) is None


def closing_web(web):
    """The least turn of a barred web that closes and the place where it does, None if the web is not barred."""
    if not is_barred(web):
        return None
    return closing_turn([web.share(number) for number in range(web.size)])


def web_for(chances):
    """The web of the ring for the chances, None if there is none."""
    ring = ring_for(chances)
    return None if ring is None else Web.of_cup(ring)


def barred_web(shares):
    """A barred web with shares of at least these, None if there is none."""
    return web_for(chance_row(shares, "shares", 2))


def barred_row(shares):
    """A web with shares of at least these and no walk from lot 0 to the last lot, None if there is none.

    A ring in which the last die is above die 0 at all times has such a web: the last relation holds all
    pairs, so a walk would be a round. There is such a ring exactly if the chain of the losses closes.
    """
    return web_for(chance_row(shares, "shares", 1) + [(1, 1)])
