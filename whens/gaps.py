"""Full tables with gaps: the bounds of each two ends, times that keep them, or a ring of gaps that can't be."""

from whens.drafts import Draft, paper_of
from whens.fractions import is_below, less, plus, product
from whens.rows import NOUGHT, is_fault
from whens.tellings import ends_of, is_table, kinds_of, telling_of
from whens.words import END_COUNTS, how_ends

ONE = (1, 1)
HALF = (1, 2)


def is_full(things, thing):
    """Whether any plain thing is a full table of the things."""
    return is_table(things, thing) and all([len(words) == 1 for a, b, words in thing])


def full_talk(talk, table):
    """The talk of a full table's words and, behind them, the talk's gap sayings."""
    mays = tuple([("may",) + row for row in table])
    return (talk[0], mays + tuple([saying for saying in talk[1] if saying[0] == "gap"]))


def lines_between(x, y, way):
    """The lines of two ends, the first of which stands so to the second."""
    if way == -1:
        return [(x, y, NOUGHT, True)]
    if way == 1:
        return [(y, x, NOUGHT, True)]
    return [(x, y, NOUGHT, False), (y, x, NOUGHT, False)]


def lines_by_saying(things, saying):
    """The lines of a saying of a full talk."""
    if saying[0] == "gap":
        return [saying[1:]]
    word, a, b, words = saying
    kinds = kinds_of(things, a, b)
    found = []
    for x in range(END_COUNTS[kinds[0]]):
        for y in range(END_COUNTS[kinds[1]]):
            found.extend(lines_between((a, x), (b, y), how_ends(kinds, words[0], x, y)))
    return found


def lines_by_step(full):
    """Each line with a step of which it comes: long, or the told one of its saying."""
    found = {((name, 0), (name, 1), NOUGHT, True): ("long", name) for name, kind in full[0] if kind == "stretch"}
    for number, saying in enumerate(full[1]):
        for line in lines_by_saying(full[0], saying):
            found.setdefault(line, ("told", number))
    return found


def lines(full):
    """All lines of a full talk, sorted."""
    return tuple(sorted(lines_by_step(full)))


def laid_line(draft, full, line, step):
    """The number of the line's row in the draft."""
    if step[0] == "long":
        return draft.lay(step, line)
    row = full[1][step[1]][1:]
    told = draft.lay(step, row)
    return told if row == line else draft.lay(("ends", told, line[0], line[1]), line)


def is_tighter(row, other):
    """Whether a gap row has a tighter bound than another one of the same ends."""
    if row[2] == other[2]:
        return row[3] and not other[3]
    return is_below(row[2], other[2])


def hold_tighter(draft, bounds, number):
    """Holds a row among the bounds, by its ends, where there is none as tight."""
    row = draft.rows[number]
    ends = row[:2]
    if ends not in bounds or is_tighter(row, draft.rows[bounds[ends]]):
        bounds[ends] = number


def added(draft, one, other):
    """The number of the row of two gap rows added."""
    x, y, number, strict = draft.rows[one]
    y, z, more, also = draft.rows[other]
    return draft.lay(("add", one, other), (x, z, plus(number, more), strict or also))


def add_through(draft, bounds, ends, middle):
    """Adds all that leads through the middle end; the number of a fault if one comes."""
    for x in ends:
        for z in ends:
            if (x, middle) in bounds and (middle, z) in bounds:
                number = added(draft, bounds[(x, middle)], bounds[(middle, z)])
                if x != z:
                    hold_tighter(draft, bounds, number)
                elif is_fault(draft.rows[number]):
                    return number
    return None


def spread(full):
    """("spread", the tightest bound of each two ends), or ("ring", a paper) where lines come round to less than 0."""
    draft = Draft()
    bounds = {}
    steps = lines_by_step(full)
    for line in steps:
        hold_tighter(draft, bounds, laid_line(draft, full, line, steps[line]))
    ends = sorted(ends_of(full[0]))
    for middle in ends:
        fault = add_through(draft, bounds, ends, middle)
        if fault is not None:
            return ("ring", paper_of(draft, fault))
    rows = [
        (x, y, draft.rows[bounds[(x, y)]][2:] if (x, y) in bounds else None)
        for x in ends for y in ends if x != y
    ]
    return ("spread", tuple(rows))


def greatest(some):
    """The greatest of some fractions."""
    found = some[0]
    for time in some:
        if is_below(found, time):
            found = time
    return found


def least(some):
    """The least of some fractions."""
    found = some[0]
    for time in some:
        if is_below(time, found):
            found = time
    return found


def time_with_room(bounds, laid, end):
    """A time for an end that the bounds let it have, with the times that are laid for others."""
    floors = [less(laid[x], bounds[(x, end)][0]) for x in laid if bounds[(x, end)] is not None]
    roofs = [plus(laid[y], bounds[(end, y)][0]) for y in laid if bounds[(end, y)] is not None]
    if floors == [] and roofs == []:
        return NOUGHT
    if roofs == []:
        return plus(greatest(floors), ONE)
    if floors == []:
        return less(least(roofs), ONE)
    # Just on a bound only where both are one: there none can be strict.
    return product(plus(greatest(floors), least(roofs)), HALF)


def times(full):
    """A telling that keeps a full talk, or None where none does."""
    word, rows = spread(full)
    if word == "ring":
        return None
    bounds = {(x, y): bound for x, y, bound in rows}
    laid = {}
    for end in ends_of(full[0]):
        laid[end] = time_with_room(bounds, laid, end)
    return telling_of(full[0], laid)
