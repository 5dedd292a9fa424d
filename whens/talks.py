"""Talks: things and what is said of them, and whether tellings keep it."""

from whens.fractions import is_fraction
from whens.tellings import are_two_names, is_end, is_gap_met, is_things, kinds_of, word_between
from whens.words import is_may

MOST_SAYINGS = 24


def is_may_saying(things, thing):
    """Whether a tuple that begins with "may" is a saying of the things."""
    if len(thing) != 4 or not are_two_names(things, thing[1], thing[2]):
        return False
    return is_may(kinds_of(things, thing[1], thing[2]), thing[3]) and thing[3] != ()


def is_gap_saying(things, thing):
    """Whether a tuple that begins with "gap" is a saying of the things."""
    if len(thing) != 5:
        return False
    word, x, y, number, strict = thing
    if not is_end(things, x) or not is_end(things, y) or x == y:
        return False
    return is_fraction(number) and isinstance(strict, bool)


def is_saying(things, thing):
    """Whether any plain thing is a saying of the things."""
    if not isinstance(thing, tuple) or thing == ():
        return False
    if thing[0] == "may":
        return is_may_saying(things, thing)
    return thing[0] == "gap" and is_gap_saying(things, thing)


def is_talk(thing):
    """Whether any plain thing is a talk."""
    if not isinstance(thing, tuple) or len(thing) != 2:
        return False
    things, sayings = thing
    if not is_things(things) or not isinstance(sayings, tuple) or len(sayings) > MOST_SAYINGS:
        return False
    return all([is_saying(things, saying) for saying in sayings])


def with_saying(talk, saying):
    """The talk with a saying behind its others."""
    return (talk[0], talk[1] + (saying,))


def is_so(things, saying, telling):
    """Whether the saying is so in the telling."""
    if saying[0] == "may":
        return word_between(things, telling, saying[1], saying[2]) in saying[3]
    return is_gap_met(things, telling, saying[1:])


def keeps(talk, telling):
    """Whether the telling keeps the talk."""
    return broken(talk, telling) == []


def broken(talk, telling):
    """The numbers, rising, of the sayings that are not so."""
    things, sayings = talk
    return [number for number, saying in enumerate(sayings) if not is_so(things, saying, telling)]
