"""The checker: it goes through a paper step by step and lets by only what no telling keeps."""

from whens.errors import NoPaper
from whens.rows import is_fault, may_row_at, row_of
from whens.tellings import kinds_of
from whens.words import is_may

DEEPEST = 12


def is_part(things, row, thing):
    """Whether any plain thing is a tuple of a may of the row's words alone and of whatever is said to be a paper."""
    if not isinstance(thing, tuple) or len(thing) != 2:
        return False
    words = thing[0]
    return is_may(kinds_of(things, row[0], row[1]), words) and all([word in row[2] for word in words])


def is_cases(talk, rows, step):
    """Whether any plain thing is cases of a row that stands, its papers set aside."""
    if not isinstance(step, tuple) or len(step) != 3 or step[0] != "cases":
        return False
    row = may_row_at(rows, step[1])
    parts = step[2]
    if row is None or not isinstance(parts, tuple) or parts == ():
        return False
    if not all([is_part(talk[0], row, part) for part in parts]):
        return False
    covered = [word for words, paper in parts for word in words]
    return all([word in covered for word in row[2]])


def go_through_cases(talk, rows, step, path, deep):
    """Refuses cases that are none, and each of their papers that is not shut."""
    if deep > DEEPEST or not is_cases(talk, rows, step):
        raise NoPaper(path, "step")
    a, b, words = rows[step[1]]
    for number, (chosen, paper) in enumerate(step[2]):
        go_through(talk, rows + [(a, b, chosen)], paper, path + (number,), deep)


def go_through(talk, rows, paper, path, deep):
    """Refuses a paper that is not shut where the rows, a list of its own, stand, within so many cases."""
    if not isinstance(paper, tuple):
        raise NoPaper(path, "shape")
    for place, step in enumerate(paper):
        row = row_of(talk, rows, step)
        if row is not None:
            rows.append(row)
        elif place < len(paper) - 1:
            raise NoPaper(path + (place,), "step")
        else:
            go_through_cases(talk, rows, step, path + (place,), deep + 1)
            return
    if paper == () or not is_fault(rows[-1]):
        raise NoPaper(path, "open")


def lets_no(talk, thing):
    """True where any plain thing is a paper that is shut for the talk; so no telling keeps the talk."""
    go_through(talk, [], thing, (), 0)
    return True


def is_let_by(talk, thing):
    """Whether any plain thing is a paper that is shut for the talk."""
    try:
        return lets_no(talk, thing)
    except NoPaper:
        return False


def rows_of(talk, paper):
    """The rows that the steps of a paper that is let by give, in order; cases give none."""
    rows = []
    for step in paper:
        row = row_of(talk, rows, step)
        if row is not None:
            rows.append(row)
    return rows
