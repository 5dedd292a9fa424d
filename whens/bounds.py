"""Bounds of ends: gap rows of a draft, held as tight as their sums make them, and times that keep them."""

from whens.fractions import is_below, less, plus, product
from whens.rows import NOUGHT, is_fault
from whens.tellings import ends_of, telling_of

ONE = (1, 1)
HALF = (1, 2)


def is_tighter(row, other):
    """Whether a gap row has a tighter bound than another one of the same ends."""
    if row[2] == other[2]:
        return row[3] and not other[3]
    return is_below(row[2], other[2])


def is_held(draft, bounds, row):
    """Whether the bounds have a row of the same ends that is as tight."""
    ends = row[:2]
    return ends in bounds and not is_tighter(row, draft.rows[bounds[ends]])


def sum_of(one, other):
    """The row of two gap rows added."""
    return (one[0], other[1], plus(one[2], other[2]), one[3] or other[3])


def hold_sum(draft, bounds, one, other):
    """Holds two rows added where this is tighter than what is held; whether it is."""
    row = sum_of(draft.rows[one], draft.rows[other])
    if is_held(draft, bounds, row):
        return False
    bounds[row[:2]] = draft.lay(("add", one, other), row)
    return True


def hold(draft, ends, bounds, number):
    """Holds a row and all sums that are tighter by it; the number of a fault if one comes.

    By their ends the bounds have the numbers of rows no two of which have a sum that is tighter than what is held, so
    that a ring, too, is met in one sum.
    """
    row = draft.rows[number]
    x, y = row[:2]
    if is_held(draft, bounds, row):
        return None
    if (y, x) in bounds:
        ring = sum_of(row, draft.rows[bounds[(y, x)]])
        if is_fault(ring):
            return draft.lay(("add", number, bounds[(y, x)]), ring)
    bounds[(x, y)] = number
    firsts = [x]
    for end in ends:
        if end != y and (end, x) in bounds and hold_sum(draft, bounds, bounds[(end, x)], number):
            firsts.append(end)
    for end in ends:
        for first in firsts:
            if first != end and (y, end) in bounds:
                hold_sum(draft, bounds, bounds[(first, y)], bounds[(y, end)])
    return None


def greatest(some):
    """The greatest of some fractions."""
    found = some[0]
    for time in some:
        if is_below(found, time):
            found = time
    return found


def least(some):
    """The least of some fractions."""
    found = some[0]
    for time in some:
        if is_below(time, found):
            found = time
    return found


def time_with_room(bounds, laid, end):
    """A time for an end that the bounds let it have, with the times that are laid for others."""
    floors = [less(laid[x], bounds[(x, end)][0]) for x in laid if (x, end) in bounds]
    roofs = [plus(laid[y], bounds[(end, y)][0]) for y in laid if (end, y) in bounds]
    if floors == [] and roofs == []:
        return NOUGHT
    if roofs == []:
        return plus(greatest(floors), ONE)
    if floors == []:
        return less(least(roofs), ONE)
    # Just on a bound only where both are one: there none can be strict.
    return product(plus(greatest(floors), least(roofs)), HALF)


def laid_times(things, bounds, begun):
    """A telling within bounds (number, strict) that have all their sums; times within them may be laid already."""
    laid = dict(begun)
    for end in ends_of(things):
        if end not in laid:
            laid[end] = time_with_room(bounds, laid, end)
    return telling_of(things, laid)
