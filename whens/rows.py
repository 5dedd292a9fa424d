"""Rows, and the steps that give a row where some rows stand: each step is looked at by itself."""

from whens.behind import behind_mays
from whens.fractions import is_whole, plus
from whens.tellings import are_two_names, is_end, is_gap_met, kinds_of, word_between
from whens.words import how_ends, turned_may, words_of

NOUGHT = (0, 1)


def is_may_row(row):
    """Whether a row is a may row; else it is a gap row."""
    return len(row) == 3


def is_fault(row):
    """Whether a row is a fault: one that no telling has."""
    if is_may_row(row):
        return row[2] == ()
    x, y, number, strict = row
    return x == y and (number[0] < 0 or number[0] == 0 and strict)


def has_row(things, telling, row):
    """Whether the telling has the row."""
    if is_may_row(row):
        return word_between(things, telling, row[0], row[1]) in row[2]
    return is_gap_met(things, telling, row)


def is_place(thing, many):
    """Whether any plain thing is the number of one of so many."""
    return is_whole(thing) and 0 <= thing < many


def may_row_at(rows, thing):
    """The may row whose number any plain thing is, or None."""
    if not is_place(thing, len(rows)) or not is_may_row(rows[thing]):
        return None
    return rows[thing]


def gap_row_at(rows, thing):
    """The gap row whose number any plain thing is, or None."""
    if not is_place(thing, len(rows)) or is_may_row(rows[thing]):
        return None
    return rows[thing]


def lie_across(things, row, x, y):
    """Whether any two plain things are an end of one of a may row's things and an end of the other one."""
    if not is_end(things, x) or not is_end(things, y):
        return False
    return (x[0], y[0]) in ((row[0], row[1]), (row[1], row[0]))


def ways_across(things, row, x, y):
    """How x stands to y in each word of a may row, where they lie across it."""
    a, b, words = row
    kinds = kinds_of(things, a, b)
    if x[0] == a:
        return [how_ends(kinds, word, x[1], y[1]) for word in words]
    return [-how_ends(kinds, word, y[1], x[1]) for word in words]


def told_row(talk, rows, step):
    """("told", k)"""
    sayings = talk[1]
    return sayings[step[1]][1:] if is_place(step[1], len(sayings)) else None


def any_row(talk, rows, step):
    """("any", a, b)"""
    word, a, b = step
    if not are_two_names(talk[0], a, b):
        return None
    return (a, b, words_of(kinds_of(talk[0], a, b)))


def long_row(talk, rows, step):
    """("long", s)"""
    if (step[1], "stretch") not in talk[0]:
        return None
    return ((step[1], 0), (step[1], 1), NOUGHT, True)


def turned_row(talk, rows, step):
    """("turned", i)"""
    row = may_row_at(rows, step[1])
    if row is None:
        return None
    a, b, words = row
    return (b, a, turned_may(words))


def behind_row(talk, rows, step):
    """("behind", i, j)"""
    one = may_row_at(rows, step[1])
    other = may_row_at(rows, step[2])
    if one is None or other is None or one[1] != other[0] or one[0] == other[1]:
        return None
    a, b, words = one
    c = other[1]
    kinds = kinds_of(talk[0], a, b) + kinds_of(talk[0], b, c)[1:]
    return (a, c, behind_mays(kinds, words, other[2]))


def both_row(talk, rows, step):
    """("both", i, j)"""
    one = may_row_at(rows, step[1])
    other = may_row_at(rows, step[2])
    if one is None or other is None or one[:2] != other[:2]:
        return None
    return one[:2] + (tuple([word for word in one[2] if word in other[2]]),)


def ends_row(talk, rows, step):
    """("ends", i, x, y)"""
    word, i, x, y = step
    row = may_row_at(rows, i)
    if row is None or row[2] == () or not lie_across(talk[0], row, x, y):
        return None
    ways = ways_across(talk[0], row, x, y)
    return None if 1 in ways else (x, y, NOUGHT, 0 not in ways)


def strike_row(talk, rows, step):
    """("strike", i, j)"""
    row = may_row_at(rows, step[1])
    gap = gap_row_at(rows, step[2])
    if row is None or gap is None or not lie_across(talk[0], row, gap[0], gap[1]):
        return None
    x, y, number, strict = gap
    if number[0] > 0:
        return None
    latest = -1 if number[0] < 0 or strict else 0
    ways = ways_across(talk[0], row, x, y)
    return row[:2] + (tuple([word for word, way in zip(row[2], ways) if way <= latest]),)


def add_row(talk, rows, step):
    """("add", i, j)"""
    one = gap_row_at(rows, step[1])
    other = gap_row_at(rows, step[2])
    if one is None or other is None or one[1] != other[0]:
        return None
    return (one[0], other[1], plus(one[2], other[2]), one[3] or other[3])


STEPS = {
    "told": told_row, "any": any_row, "long": long_row, "turned": turned_row, "behind": behind_row,
    "both": both_row, "ends": ends_row, "strike": strike_row, "add": add_row,
}

STEP_LENGTHS = {
    "told": 2, "any": 3, "long": 2, "turned": 2, "behind": 3, "both": 3, "ends": 4, "strike": 3, "add": 3,
}


def row_of(talk, rows, step):
    """The row that any plain thing gives as a step where these rows stand, or None where it is no such step."""
    if not isinstance(step, tuple) or step == () or not isinstance(step[0], str):
        return None
    if step[0] not in STEPS or len(step) != STEP_LENGTHS[step[0]]:
        return None
    action = STEPS[step[0]]
    return action(talk, rows, step)
