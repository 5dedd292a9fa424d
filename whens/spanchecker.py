"""The checker of how far apart two ends can lie: it looks at what shows an answer and seeks nothing."""

from whens.checker import lets_no
from whens.errors import NoSpan
from whens.fractions import is_below, is_fraction, less
from whens.rows import NOUGHT
from whens.talks import keeps, with_saying
from whens.tellings import ends_of, is_telling, time_of


def are_stands(kind, thing):
    """Whether any plain thing is what stands hold for a thing of the kind."""
    if kind == "point":
        return is_fraction(thing)
    return isinstance(thing, tuple) and len(thing) == 2 and is_fraction(thing[0]) and is_fraction(thing[1])


def is_stands(things, thing):
    """Whether any plain thing is stands of the things."""
    if not isinstance(thing, tuple) or len(thing) != len(things):
        return False
    return all([are_stands(kind, part) for (name, kind), part in zip(things, thing)])


def apart(things, stands, x, y):
    """How much more than y's x is, in stands or a telling."""
    return less(time_of(things, stands, x), time_of(things, stands, y))


def keeps_order(things, telling, stands):
    """Whether of each two ends none is later in the stands that is earlier, or alike, in the telling."""
    for u in ends_of(things):
        for v in ends_of(things):
            is_later = is_below(NOUGHT, apart(things, telling, u, v))
            if not is_later and is_below(NOUGHT, apart(things, stands, u, v)):
                return False
    return True


def is_limit(talk, telling, stands):
    """Whether stands are a limit of a telling that keeps the talk."""
    things, sayings = talk
    for saying in sayings:
        if saying[0] == "gap" and is_below(saying[3], apart(things, stands, saying[1], saying[2])):
            return False
    return keeps_order(things, telling, stands)


def is_drift(talk, telling, stands):
    """Whether stands are a drift of a telling that keeps the talk."""
    things, sayings = talk
    for saying in sayings:
        if saying[0] == "gap" and is_below(NOUGHT, apart(things, stands, saying[1], saying[2])):
            return False
    return keeps_order(things, telling, stands)


def is_at(thing):
    """Whether any plain thing is an answer ("at", number, strict)."""
    if not isinstance(thing, tuple) or len(thing) != 3:
        return False
    return thing[0] == "at" and is_fraction(thing[1]) and isinstance(thing[2], bool)


def is_shaped(things, thing, stands_follow, many):
    """Whether any plain thing is a tuple of so many: a telling and, where they follow, stands first."""
    if not isinstance(thing, tuple) or len(thing) != many or not is_telling(things, thing[0]):
        return False
    return not stands_follow or is_stands(things, thing[1])


def beyond(x, y, number, strict):
    """The saying that x's time less y's is above the number, or, where this is strict, at least it."""
    return ("gap", y, x, (-number[0], number[1]), not strict)


def lets_free(talk, x, y, thing):
    """Refuses what doesn't show ("free",)."""
    things = talk[0]
    if not is_shaped(things, thing, True, 2):
        raise NoSpan("shape")
    telling, drift = thing
    if not keeps(talk, telling):
        raise NoSpan("keeps")
    if not is_drift(talk, telling, drift):
        raise NoSpan("drift")
    if not is_below(NOUGHT, apart(things, drift, x, y)):
        raise NoSpan("number")
    return True


def lets_at(talk, x, y, answer, thing):
    """Refuses what doesn't show ("at", number, strict)."""
    things = talk[0]
    word, number, strict = answer
    if not is_shaped(things, thing, strict, 3 if strict else 2):
        raise NoSpan("shape")
    if not keeps(talk, thing[0]):
        raise NoSpan("keeps")
    if strict and not is_limit(talk, thing[0], thing[1]):
        raise NoSpan("limit")
    # The number is the limit's where there is one, else the telling's: what stands ahead of the paper.
    if apart(things, thing[-2], x, y) != number:
        raise NoSpan("number")
    return lets_no(with_saying(talk, beyond(x, y, number, strict)), thing[-1])


def lets_span(talk, x, y, answer, thing):
    """True where any plain thing shows the answer, any plain thing, for how far x can be behind y."""
    if is_at(answer):
        return lets_at(talk, x, y, answer, thing)
    if answer == ("free",):
        return lets_free(talk, x, y, thing)
    if answer == ("none",):
        return lets_no(talk, thing)
    raise NoSpan("answer")
