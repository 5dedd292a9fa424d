"""Drafts: rows as they are found while something is sought, of which a paper is written that has just what it needs."""

from whens.papers import rows_named, with_rows


class Draft:
    """Rows, each with the step that gives it, numbered as they came.

    Some rows are only supposed, as the parts of cases are. The needs of a row tell by their bits which supposed rows
    it comes of: each of these that stand within one another has a bit of its own, the inner ones the greater bits.
    """

    def __init__(self):
        self.rows = []
        self.steps = []
        self.needs = []
        self.turns = {}

    def lay(self, step, row):
        """The number of a row that a step gives; the step names rows by their numbers here."""
        needs = 0
        for number in rows_named(step):
            needs |= self.needs[number]
        return self.keep(step, row, needs)

    def suppose(self, row, bit):
        """The number of a row that is only supposed."""
        return self.keep(("supposed",), row, bit)

    def part_cases(self, number, parts):
        """The number of cases of a row; parts: of each its words, its supposed row and what shuts its paper."""
        needs = self.needs[number]
        for words, supposed, shut in parts:
            needs |= self.needs[shut] & ~self.needs[supposed]
        return self.keep(("cases", number, tuple(parts)), None, needs)

    def keep(self, step, row, needs):
        """The number of a row, or of cases, with all that is kept of it."""
        self.rows.append(row)
        self.steps.append(step)
        self.needs.append(needs)
        return len(self.rows) - 1

    def turn(self, number, row):
        """The number of the turned row of a may row; row is the turned one."""
        if number not in self.turns:
            self.turns[number] = self.lay(("turned", number), row)
        return self.turns[number]

    def comes_of(self, number, other):
        """Whether a row, or what shuts a paper, comes of a supposed one."""
        return self.needs[number] & self.needs[other] != 0


def grounds_of(draft, number):
    """The numbers that a row, or cases, come of at once."""
    step = draft.steps[number]
    grounds = list(rows_named(step))
    if step[0] == "cases":
        grounds.extend([shut for words, supposed, shut in step[2]])
    return grounds


def wanted_rows(draft, shut, places, bits):
    """The rows, rising, that are to be written ahead of what shuts a paper, and this itself if it is a row.

    All that comes of no supposed row but those whose bits are given is written here and not, perhaps several times,
    in papers of cases within.
    """
    seen = set()
    wanted = []
    todo = [shut]
    while todo:
        number = todo.pop()
        if number in seen or number in places:
            continue
        seen.add(number)
        todo.extend(grounds_of(draft, number))
        if draft.rows[number] is not None and draft.needs[number] & ~bits == 0:
            wanted.append(number)
    return sorted(wanted)


def written_cases(draft, shut, places, bits):
    """The step of cases, their papers written out."""
    word, number, parts = draft.steps[shut]
    written = []
    for words, supposed, inner_shut in parts:
        inner = dict(places)
        inner[supposed] = len(inner)
        written.append((words, written_paper(draft, inner_shut, inner, bits | draft.needs[supposed])))
    return ("cases", places[number], tuple(written))


def written_paper(draft, shut, places, bits):
    """The paper that ends with what shuts it, where rows with these places, and of these bits, stand."""
    places = dict(places)
    steps = []
    for number in wanted_rows(draft, shut, places, bits):
        step = draft.steps[number]
        steps.append(with_rows(step, [places[row] for row in rows_named(step)]))
        places[number] = len(places)
    if draft.rows[shut] is None:
        steps.append(written_cases(draft, shut, places, bits))
    return tuple(steps)


def paper_of(draft, shut):
    """The paper that ends with what shuts it: a fault, or cases."""
    return written_paper(draft, shut, {}, 0)
