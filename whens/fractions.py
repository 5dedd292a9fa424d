"""Fractions: tuples (top, bottom) of whole numbers of any size, in least numbers, the bottom from 1 on."""


def is_whole(thing):
    """Whether any plain thing is a whole number."""
    return isinstance(thing, int) and not isinstance(thing, bool)


def common(one, other):
    """The greatest number that divides both, not below 0."""
    while other != 0:
        one, other = other, one % other
    return abs(one)


def is_fraction(thing):
    """Whether any plain thing is a fraction."""
    if not isinstance(thing, tuple) or len(thing) != 2:
        return False
    top, bottom = thing
    if not is_whole(top) or not is_whole(bottom):
        return False
    return bottom >= 1 and common(top, bottom) == 1


def fraction(top, bottom):
    """The fraction that top divided by bottom is; bottom is not 0."""
    shared = common(top, bottom)
    if bottom < 0:
        shared = -shared
    return (top // shared, bottom // shared)


def plus(one, other):
    """The sum of two fractions."""
    return fraction(one[0] * other[1] + other[0] * one[1], one[1] * other[1])


def less(one, other):
    """The first fraction less the second."""
    return fraction(one[0] * other[1] - other[0] * one[1], one[1] * other[1])


def product(one, other):
    """The one fraction multiplied by the other."""
    return fraction(one[0] * other[0], one[1] * other[1])


def is_below(one, other):
    """Whether the first fraction is below the second."""
    return one[0] * other[1] < other[0] * one[1]
