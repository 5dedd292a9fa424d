"""Lines of ends and their sums, and all choices of words of a talk that have no ring, by the tests' own reckoning."""

import itertools
import math
from fractions import Fraction

from layouts import end_numbers
from oracle import fraction_of, in_order, mays_said, ways_laid

S = "stretch"


def ends_of(things):
    return [(name, number) for name, kind in things for number in end_numbers(kind)]


def lines_laid(full):
    """The lines of a full talk, by times that have each word."""
    things, sayings = full
    kinds = dict(things)
    found = {((name, 0), (name, 1), (0, 1), True) for name, kind in things if kind == S}
    for saying in sayings:
        if saying[0] == "gap":
            found.add(saying[1:])
            continue
        name, a, b, (word,) = saying
        for (x, y), way in ways_laid((kinds[a], kinds[b]), word).items():
            one, other = (a, x), (b, y)
            if way <= 0:
                found.add((one, other, (0, 1), way == -1))
            if way >= 0:
                found.add((other, one, (0, 1), way == 1))
    return found


def summed(one, other):
    """Sums are pairs of a number and 0 where strict, 1 where not: so the tighter one is the lesser."""
    return (one[0] + other[0], min(one[1], other[1]))


def all_sums(full):
    """The least sum of rows of lines from each end to each, or "ring": all rows that pass no end twice are gone through."""
    tightest = {}
    for x, y, number, strict in lines_laid(full):
        bound = (fraction_of(number), 0 if strict else 1)
        tightest[x, y] = min(bound, tightest.get((x, y), bound))
    ends = ends_of(full[0])
    leads = {x: [(y, tightest[x, y]) for y in ends if (x, y) in tightest] for x in ends}
    found = {}

    def go(start, here, passed, so_far):
        for there, bound in leads[here]:
            whole = summed(so_far, bound)
            if there == start or there not in passed:
                found[start, there] = min(whole, found.get((start, there), whole))
            if there != start and there not in passed:
                go(start, there, passed | {there}, whole)

    for end in ends:
        go(end, end, {end}, (Fraction(0), 1))
    if any(found.get((end, end), (1, 1)) < (0, 1) for end in ends):
        return "ring"
    return found


def swift_sums(full):
    """The same for many ends, by going on until nothing is tighter; "ring" where that doesn't end in time."""
    ends = ends_of(full[0])
    found = {}
    for x, y, number, strict in lines_laid(full):
        bound = (fraction_of(number), 0 if strict else 1)
        found[x, y] = min(bound, found.get((x, y), bound))
    for turn in range(len(ends) + 1):
        longer = dict(found)
        for (x, y), (z, w) in itertools.product(found, found):
            if y == z:
                whole = summed(found[x, y], found[z, w])
                longer[x, w] = min(whole, longer.get((x, w), whole))
        found = longer
        if any(found.get((end, end), (1, 1)) < (0, 1) for end in ends):
            return "ring"
    return found


def tightened(sums, ends, x, y, bound):
    """The least sums with one line more, or None where it makes a ring."""
    if (y, x) in sums and summed(bound, sums[y, x]) < (0, 1):
        return None
    found = dict(sums)
    for u, v in itertools.product(ends, ends):
        if (u == x or (u, x) in sums) and (v == y or (y, v) in sums) and u != v:
            whole = bound
            if u != x:
                whole = summed(sums[u, x], whole)
            if v != y:
                whole = summed(whole, sums[y, v])
            if (u, v) not in found or whole < found[u, v]:
                found[u, v] = whole
    return found


def with_lines(sums, ends, lines):
    """The least sums with some lines (x, y, bound) more, or None."""
    for x, y, bound in lines:
        if sums is not None:
            sums = tightened(sums, ends, x, y, bound)
    return sums


def word_lines(things, a, b, word):
    """The lines of a word of two things."""
    kinds = dict(things)
    found = []
    for (x, y), stand in ways_laid((kinds[a], kinds[b]), word).items():
        if stand <= 0:
            found.append(((a, x), (b, y), (0, 0 if stand else 1)))
        if stand >= 0:
            found.append(((b, y), (a, x), (0, 0 if stand else 1)))
    return found


def shared_bottom(talk):
    """A number by which all gaps' numbers are whole."""
    return math.lcm(1, *[saying[3][1] for saying in talk[1] if saying[0] == "gap"])


def choices(talk):
    """Each choice of one said word for each two things that has no ring, rising: (a full table, the least sums).

    The sums are of whole numbers, shared_bottom times as great.
    """
    things = talk[0]
    ends = ends_of(things)
    many = shared_bottom(talk)
    lines = [((name, 0), (name, 1), (0, 0)) for name, kind in things if kind == S]
    for saying in talk[1]:
        if saying[0] == "gap":
            lines.append((saying[1], saying[2], (int(fraction_of(saying[3]) * many), 0 if saying[4] else 1)))
    mays = mays_said(talk)
    pairs = list(mays)

    def go(at, table, sums):
        if sums is None:
            return
        if at == len(pairs):
            yield table, sums
            return
        a, b = pairs[at]
        for word in in_order(mays[a, b]):
            yield from go(at + 1, table + ((a, b, (word,)),), with_lines(sums, ends, word_lines(things, a, b, word)))

    yield from go(0, (), with_lines({}, ends, lines))


def can_be_kept(talk):
    """Whether some choice of words has no ring."""
    return any(True for choice in choices(talk))


def span_laid(talk, x, y):
    """How far x can be behind y, over all choices of words."""
    best = None
    for table, sums in choices(talk):
        if (x, y) not in sums:
            return ("free",)
        if best is None or sums[x, y] > best:
            best = sums[x, y]
    if best is None:
        return ("none",)
    number = Fraction(best[0], shared_bottom(talk))
    return ("at", (number.numerator, number.denominator), best[1] == 0)
