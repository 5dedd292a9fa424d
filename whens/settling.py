"""Settling: the words of each two things and the bounds of ends strike and tighten one another while they can."""

from whens.bounds import hold
from whens.closing import close, fault_in, said_cells
from whens.plain import signs_in
from whens.rows import NOUGHT, strike_row
from whens.tellings import ends_of
from whens.words import END_COUNTS


class State:
    """What is so on the way, by numbers of rows: of each two things, and of ends (None where gaps are passed over).

    Chosen has, for the pairs for which words were supposed, these words.
    """

    def __init__(self, cells, bounds, chosen):
        self.cells = cells
        self.bounds = bounds
        self.chosen = chosen

    def copied(self):
        """A state of its own that is alike."""
        bounds = None if self.bounds is None else dict(self.bounds)
        return State(dict(self.cells), bounds, dict(self.chosen))


def bounds_between(x, y, signs):
    """The gap rows that the signs of two ends give."""
    strict = 0 not in signs
    found = []
    if 1 not in signs:
        found.append((x, y, NOUGHT, strict))
    if -1 not in signs:
        found.append((y, x, NOUGHT, strict))
    return found


def bounds_by_words(kinds, row):
    """The gap rows that a may row of one word or more gives by ends."""
    a, b, words = row
    two = (kinds[a], kinds[b])
    found = []
    for x in range(END_COUNTS[two[0]]):
        for y in range(END_COUNTS[two[1]]):
            found.extend(bounds_between((a, x), (b, y), signs_in(two, words, x, y)))
    return found


def tighten(board, state, pairs):
    """Tightens the bounds by the words of some pairs; the number of a fault if one comes."""
    ends = ends_of(board.basis[0])
    for pair in pairs:
        number = state.cells[pair]
        for row in bounds_by_words(board.kinds, board.draft.rows[number]):
            shut = hold(board.draft, ends, state.bounds, board.draft.lay(("ends", number, row[0], row[1]), row))
            if shut is not None:
                return shut
    return None


def strike(board, state, ends):
    """Strikes words by the bounds of some two ends; the pairs whose words are fewer then."""
    found = {}
    for x, y in ends:
        pair = (min(x[0], y[0]), max(x[0], y[0]))
        if pair in state.cells:
            step = ("strike", state.cells[pair], state.bounds[(x, y)])
            row = strike_row(board.basis, board.draft.rows, step)
            if row is not None and row != board.draft.rows[state.cells[pair]]:
                state.cells[pair] = board.draft.lay(step, row)
                found[pair] = True
    return list(found)


def settle_bounds(board, state, pairs):
    """Settles bounds with the words of some pairs, and words with bounds; the pairs with fewer words, and a fault."""
    before = dict(state.bounds)
    shut = tighten(board, state, pairs)
    if shut is not None:
        return [], shut
    struck = strike(board, state, [ends for ends in state.bounds if state.bounds[ends] != before.get(ends)])
    return struck, fault_in(board, state.cells)


def settle(board, state, pairs):
    """Settles all where the words of some pairs are new; the number of a fault if one comes."""
    while pairs != []:
        before = dict(state.cells)
        shut = close(board, state.cells, pairs)
        if shut is not None or state.bounds is None:
            return shut
        narrowed = [pair for pair in before if pair in pairs or before[pair] != state.cells[pair]]
        pairs, shut = settle_bounds(board, state, narrowed)
        if shut is not None:
            return shut
    return None


def first_rows(board):
    """The numbers of the gap rows of the stretches' own ends and of the gap sayings."""
    draft = board.draft
    things, sayings = board.basis
    stretches = [name for name, kind in things if kind == "stretch"]
    found = [draft.lay(("long", name), ((name, 0), (name, 1), NOUGHT, True)) for name in stretches]
    for number, saying in enumerate(sayings):
        if saying[0] == "gap":
            found.append(draft.lay(("told", number), saying[1:]))
    return found


def begin_bounds(board, state):
    """Holds the bounds that are there from the first on, and strikes by them; the number of a fault if one comes."""
    ends = ends_of(board.basis[0])
    for number in first_rows(board):
        shut = hold(board.draft, ends, state.bounds, number)
        if shut is not None:
            return shut
    strike(board, state, list(state.bounds))
    return fault_in(board, state.cells)


def state_of_words(board):
    """The settled state of the board's talk, its gaps passed over, and the number of a fault, or None."""
    state = State(said_cells(board), None, {})
    shut = fault_in(board, state.cells)
    if shut is None:
        shut = settle(board, state, list(state.cells))
    return state, shut


def state_of_all(board):
    """The settled state of the board's talk, words and gaps, and the number of a fault, or None."""
    state = State(said_cells(board), {}, {})
    shut = begin_bounds(board, state)
    if shut is None:
        shut = settle(board, state, list(state.cells))
    return state, shut
