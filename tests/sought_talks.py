"""Talks, words and gaps, as the tests of judging, spans, least clashes and benches ask for them."""

import itertools
from fractions import Fraction

from layouts import end_numbers, pair
from oracle import fraction_of, in_order, is_row_so, laid_by, some_gap_saying, some_may_saying, some_telling, some_things

P, S = "point", "stretch"
SIDE_BY_SIDE = ("ahead", "meets", "met", "behind")
INSIDE = ("begins", "within", "ends", "same")


def lone_things(dice, many):
    """Things of so many names; a lone one is a stretch, so that it has two ends."""
    return (("a", S),) if many == 1 else some_things(dice, many)


def ends_in(things):
    return [(name, number) for name, kind in things for number in end_numbers(kind)]


def near_gap(dice, things, telling):
    """A gap saying at, a little below, or a little above what a telling has."""
    x, y = dice.sample(ends_in(things), 2)
    laid = laid_by(things, telling)
    apart = laid[x[0]][x[1]] - laid[y[0]][y[1]]
    return ("gap", x, y, pair(apart + dice.choice((0, 0, Fraction(1, 6), Fraction(-1, 6), 1))), dice.random() < 0.5)


def near_talk(dice, many, mays, gaps, most=13, kept=0.7):
    """A talk whose sayings are most often kept by some one telling, its gaps near to what this has."""
    things = lone_things(dice, many)
    telling = some_telling(dice, things)
    all_kept = dice.random() < kept
    sayings = []
    for at in range(mays if many > 1 else 0):
        sayings.append(some_may_saying(dice, things, most))
    for at in range(gaps):
        sayings.append(near_gap(dice, things, telling) if dice.random() < 0.7 else some_gap_saying(dice, things))
    dice.shuffle(sayings)
    if all_kept:
        sayings = [saying for saying in sayings if is_row_so(things, telling, saying[1:])]
    return (things, tuple(sayings))


def packed_talk(lengths, room, words=SIDE_BY_SIDE, strict=False):
    """Four stretches of some lengths, side by side within a fifth one of at most so much room."""
    things = tuple((name, S) for name in "abcdw")
    sayings = [("may", a, b, words) for a, b in itertools.combinations("abcd", 2)]
    sayings += [("may", name, "w", INSIDE) for name in "abcd"]
    for name, length in zip("abcd", lengths):
        top, bottom = pair(length)
        sayings.append(("gap", (name, 0), (name, 1), (-top, bottom), False))
    sayings.append(("gap", ("w", 1), ("w", 0), pair(room), strict))
    return (things, tuple(sayings))


def packed_talks():
    """Packed talks, each with whether some telling keeps it."""
    lengths = (3, Fraction(5, 2), Fraction(1, 3), 4)
    whole = sum(Fraction(length) for length in lengths)
    apart = ("ahead", "behind")
    return [
        (packed_talk(lengths, whole), True),
        (packed_talk(lengths, whole, strict=True), False),
        (packed_talk(lengths, whole - Fraction(1, 9999)), False),
        (packed_talk(lengths, whole, apart), False),
        (packed_talk(lengths, whole + Fraction(1, 9999), apart), True),
    ]


def unlike_points():
    """Five points, no two at one time, between bounds that no three of them can keep."""
    things = tuple((name, P) for name in "abcde")
    sayings = [("may", a, b, ("ahead", "behind")) for a, b in itertools.combinations("abcde", 2)]
    sayings += [("gap", (a, 0), (b, 0), (0, 1), False) for a, b in (("a", "b"), ("b", "c"), ("c", "a"))]
    return (things, tuple(sayings))


def exact_number(number, more):
    """A fraction as it is with something added."""
    return pair(fraction_of(number) + more)


def any_words(dice, words):
    """Some of the words, one or more, in order."""
    return in_order(dice.sample(words, dice.randrange(1, len(words) + 1)))
