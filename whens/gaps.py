"""Full tables with gaps: the bounds of each two ends, times that keep them, or a ring of gaps that can't be."""

from whens.bounds import hold, laid_times
from whens.drafts import Draft, paper_of
from whens.rows import NOUGHT
from whens.tellings import ends_of, is_table, kinds_of
from whens.words import END_COUNTS, how_ends


def is_full(things, thing):
    """Whether any plain thing is a full table of the things."""
    return is_table(things, thing) and all([len(words) == 1 for a, b, words in thing])


def full_talk(talk, table):
    """The talk of a full table's words and, behind them, the talk's gap sayings."""
    mays = tuple([("may",) + row for row in table])
    return (talk[0], mays + tuple([saying for saying in talk[1] if saying[0] == "gap"]))


def lines_between(x, y, way):
    """The lines of two ends, the first of which stands so to the second."""
    if way == -1:
        return [(x, y, NOUGHT, True)]
    if way == 1:
        return [(y, x, NOUGHT, True)]
    return [(x, y, NOUGHT, False), (y, x, NOUGHT, False)]


def lines_by_saying(things, saying):
    """The lines of a saying of a full talk."""
    if saying[0] == "gap":
        return [saying[1:]]
    word, a, b, words = saying
    kinds = kinds_of(things, a, b)
    found = []
    for x in range(END_COUNTS[kinds[0]]):
        for y in range(END_COUNTS[kinds[1]]):
            found.extend(lines_between((a, x), (b, y), how_ends(kinds, words[0], x, y)))
    return found


def lines_by_step(full):
    """Each line with a step of which it comes: long, or the told one of its saying."""
    found = {((name, 0), (name, 1), NOUGHT, True): ("long", name) for name, kind in full[0] if kind == "stretch"}
    for number, saying in enumerate(full[1]):
        for line in lines_by_saying(full[0], saying):
            found.setdefault(line, ("told", number))
    return found


def lines(full):
    """All lines of a full talk, sorted."""
    return tuple(sorted(lines_by_step(full)))


def laid_line(draft, full, line, step):
    """The number of the line's row in the draft."""
    if step[0] == "long":
        return draft.lay(step, line)
    row = full[1][step[1]][1:]
    told = draft.lay(step, row)
    return told if row == line else draft.lay(("ends", told, line[0], line[1]), line)


def spread(full):
    """("spread", the tightest bound of each two ends), or ("ring", a paper) where lines come round to less than 0."""
    draft = Draft()
    bounds = {}
    steps = lines_by_step(full)
    ends = sorted(ends_of(full[0]))
    for line in steps:
        fault = hold(draft, ends, bounds, laid_line(draft, full, line, steps[line]))
        if fault is not None:
            return ("ring", paper_of(draft, fault))
    rows = [
        (x, y, draft.rows[bounds[(x, y)]][2:] if (x, y) in bounds else None)
        for x in ends for y in ends if x != y
    ]
    return ("spread", tuple(rows))


def times(full):
    """A telling that keeps a full talk, or None where none does."""
    word, rows = spread(full)
    if word == "ring":
        return None
    return laid_times(full[0], {(x, y): bound for x, y, bound in rows if bound is not None}, {})
