"""How far one end can be behind another, with what shows it."""

from whens.behind import Behinds
from whens.bounds import HALF, ONE, greatest, laid_times
from whens.fractions import less, plus, product
from whens.judging import weighed
from whens.rows import NOUGHT
from whens.spanchecker import beyond, is_limit
from whens.talks import with_saying
from whens.tellings import ends_of, telling_of, time_of


def mixed(things, one, other, share, rest):
    """Each end's time in the one multiplied by the share, and in the other by the rest, added."""
    laid = {
        end: plus(product(time_of(things, one, end), share), product(time_of(things, other, end), rest))
        for end in ends_of(things)
    }
    return telling_of(things, laid)


def near_limit(talk, telling, limit):
    """A telling on the way from another one to a limit, so near that it is a limit of it."""
    # Between two ends the way changes once at most, so all is as the limit has it when this is near enough.
    share = HALF
    near = mixed(talk[0], telling, limit, share, less(ONE, share))
    while not is_limit(talk, near, limit):
        share = product(share, HALF)
        near = mixed(talk[0], telling, limit, share, less(ONE, share))
    return near


def shown_free(talk, x, bounds):
    """A telling, and a drift of it in which x goes on with all ends that its bounds lead to, and leaves the others."""
    things = talk[0]
    telling = laid_times(things, bounds, {})
    ends = ends_of(things)
    times = [time_of(things, telling, end) for end in ends]
    far = greatest([less(one, other) for one in times for other in times])
    # All that x pulls along goes with it; in the telling it has gone beyond all others already.
    drift = {end: ONE if end == x or (x, end) in bounds else NOUGHT for end in ends}
    pulled = telling_of(things, drift)
    return (mixed(things, telling, pulled, ONE, plus(far, ONE)), pulled)


def shown_at(talk, x, y, bounds, paper):
    """What shows ("at", number, strict) of the bound of x and y, with the paper that there is no more."""
    number, strict = bounds[(x, y)]
    there = laid_times(talk[0], bounds, {y: NOUGHT, x: number})
    if not strict:
        return (there, paper)
    return (near_limit(talk, laid_times(talk[0], bounds, {}), there), there, paper)


def span_shown(talk, x, y):
    """(how far x can be behind y, what shows it)."""
    behinds = Behinds()
    word, found = weighed(talk, behinds)
    if word == "no":
        return (("none",), found)
    while (x, y) in found:
        bounds = found
        number, strict = bounds[(x, y)]
        word, found = weighed(with_saying(talk, beyond(x, y, number, strict)), behinds)
        if word == "no":
            return (("at", number, strict), shown_at(talk, x, y, bounds, found))
    return (("free",), shown_free(talk, x, found))


def farthest(talk, x, y):
    """How far x can be behind y: ("none",), ("free",) or ("at", number, strict)."""
    return span_shown(talk, x, y)[0]
