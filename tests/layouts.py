"""What the tests share: the document's kinds laid out once more, by themselves, and things that are none of them."""

import itertools
import unittest
from fractions import Fraction

ORDER = ("ahead", "meets", "overlaps", "begins", "within", "ends", "same",
         "ended", "holds", "begun", "lapped", "met", "behind")
TWO_POINTS = ("point", "point")
POINT_STRETCH = ("point", "stretch")
STRETCH_POINT = ("stretch", "point")
TWO_STRETCHES = ("stretch", "stretch")
WORDS = {
    TWO_POINTS: ("ahead", "same", "behind"),
    POINT_STRETCH: ("ahead", "begins", "within", "ends", "behind"),
    STRETCH_POINT: ("ahead", "ended", "holds", "begun", "behind"),
    TWO_STRETCHES: ORDER,
}
TURNED = dict(zip(ORDER, ("behind", "met", "lapped", "begun", "holds", "ended", "same",
                          "ends", "within", "begins", "overlaps", "meets", "ahead")))
ALL_KINDS = tuple(itertools.product(("point", "stretch"), repeat=2))
ALL_THREE_KINDS = tuple(itertools.product(("point", "stretch"), repeat=3))


def deep(kind, many):
    """A thing that is many lists or tuples within one another."""
    thing = kind()
    for at in range(many - 1):
        thing = kind([thing])
    return thing


# Plain things that are no fraction, may, thing, telling, saying, step or paper of anything.
ODD = (
    None, True, False, 0, 1, -1, 10 ** 39, -10 ** 39, "", " ", "a", "ab", "ahead", "told", "may", "cases",
    [], [[]], [()], [1], ["a"], [0, 1], [None, None, None],
    (None,), (True,), (0,), ("",), ("a",), ([],), ((),), (None, None), (True, False), ("a", "b"), ("a", "ahead"),
    ((), ()), ([], []), (None, None, None), ("a", "b", "c"), ("a", "b", ["ahead"]), ((0, 1), [0, 1], None, True),
    deep(list, 60), deep(tuple, 60), (deep(list, 59),), ("told", deep(tuple, 58)), [0] * 99999, ("a",) * 99999,
)


class Case(unittest.TestCase):
    """Tests that look at kinds, too."""

    def assertExactly(self, found, wanted):
        """Alike with all kinds alike: a list is no tuple, True is no 1."""
        if repr(found) != repr(wanted):
            self.fail(f"{found!r} is not just {wanted!r}")

    def assertSays(self, truth, function, *arguments):
        """The function tells this truth, and nothing that only counts as it."""
        found = function(*arguments)
        if found is not truth:
            self.fail(f"{function.__name__} tells {found!r}, not {truth!r}, of {arguments!r}"[:2000])


def pair(number):
    """A number as a FRACTION."""
    number = Fraction(number)
    return (number.numerator, number.denominator)


def is_so_of(word, kinds, one, other):
    """The document's meaning of a word, of begins and ends; a point's are its time twice."""
    (a, b), (c, d) = one, other
    if kinds != TWO_STRETCHES and word in ("meets", "overlaps", "lapped", "met"):
        return False
    if word == "ahead":
        return b < c
    if word == "meets":
        return b == c
    if word == "overlaps":
        return a < c < b < d
    if word == "begins":
        return a == c and b < d
    if word == "within":
        return a > c and b < d
    if word == "ends":
        return a > c and b == d
    if word == "same":
        return a == c and b == d
    return is_so_of(TURNED[word], kinds[::-1], other, one)


def word_laid(kinds, one, other):
    """The one word that is so of two things with these begins and ends."""
    found = [word for word in WORDS[kinds] if is_so_of(word, kinds, one, other)]
    assert len(found) == 1, (kinds, one, other, found)
    return found[0]


def laid_out(kind, marks):
    """Each begin and end that a thing of the kind has with times among the marks."""
    if kind == "point":
        return [(mark, mark) for mark in marks]
    return list(itertools.combinations(sorted(marks), 2))


def times_laid(kind, laid):
    """TIMES of a begin and an end."""
    return pair(laid[0]) if kind == "point" else (pair(laid[0]), pair(laid[1]))


def end_numbers(kind):
    """The numbers of a thing's ends."""
    return (0,) if kind == "point" else (0, 1)


def way(one, other):
    """How a number stands to another one."""
    return (one > other) - (one < other)


def some_mays(kinds, dice, many):
    """The mays of none, of each one and of all words, and many that the dice choose."""
    words = WORDS[kinds]
    mays = [(), words] + [(word,) for word in words]
    for at in range(many):
        mays.append(tuple(word for word in words if dice.random() < 0.5))
    return mays
