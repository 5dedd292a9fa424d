"""Closing a talk: its greatest closed table, or a paper that shows that there is none."""

from whens.behind import Behinds
from whens.drafts import Draft, paper_of
from whens.tellings import names_of, pairs_of
from whens.words import turned_may, words_of


class Board:
    """What closing works on: the draft of all rows that were found, and what was reckoned on the way."""

    def __init__(self, talk, behinds):
        self.basis = talk
        self.kinds = dict(talk[0])
        self.draft = Draft()
        self.behinds = behinds

    def words_by(self, cells, a, b):
        """The words that the cells have for two things, in whichever order."""
        if (a, b) in cells:
            return self.draft.rows[cells[(a, b)]][2]
        return turned_may(self.draft.rows[cells[(b, a)]][2])

    def row_by(self, cells, a, b):
        """The number of the cells' row of two things, named in this order."""
        if (a, b) in cells:
            return cells[(a, b)]
        return self.draft.turn(cells[(b, a)], (a, b, self.words_by(cells, a, b)))

    def both(self, one, other):
        """The number of the row of the words that stand in both of two rows."""
        a, b, words = self.draft.rows[one]
        others = self.draft.rows[other][2]
        return self.draft.lay(("both", one, other), (a, b, tuple([word for word in words if word in others])))


def told_rows(board, a, b):
    """The numbers of rows of a and b, in this order, that the may sayings tell."""
    draft = board.draft
    found = []
    for number, saying in enumerate(board.basis[1]):
        if saying[0] == "may" and saying[1:3] == (a, b):
            found.append(draft.lay(("told", number), saying[1:]))
        elif saying[0] == "may" and saying[1:3] == (b, a):
            told = draft.lay(("told", number), saying[1:])
            found.append(draft.turn(told, (a, b, turned_may(saying[3]))))
    return found


def said_row(board, a, b):
    """The number of the row of all that is said of a and b."""
    found = told_rows(board, a, b)
    if found == []:
        words = words_of((board.kinds[a], board.kinds[b]))
        return board.draft.lay(("any", a, b), (a, b, words))
    row = found[0]
    for other in found[1:]:
        row = board.both(row, other)
    return row


def said_cells(board):
    """For each two things, the first ahead of the second, the number of the row of all that is said of them."""
    return {(a, b): said_row(board, a, b) for a, b in pairs_of(board.basis[0])}


def fault_in(board, cells):
    """The number of a row among the cells that has no words, or None."""
    for number in cells.values():
        if board.draft.rows[number][2] == ():
            return number
    return None


def narrow(board, cells, pair, middle):
    """Strikes from the pair's cell what can't come through the middle thing; whether there was such a word."""
    a, c = pair
    draft = board.draft
    words = board.words_by(cells, a, c)
    kinds = (board.kinds[a], board.kinds[middle], board.kinds[c])
    found = board.behinds.mays(kinds, board.words_by(cells, a, middle), board.words_by(cells, middle, c))
    left = tuple([word for word in words if word in found])
    if left == words:
        return False
    step = ("behind", board.row_by(cells, a, middle), board.row_by(cells, middle, c))
    row = draft.lay(step, (a, c, found))
    cells[pair] = row if left == found else board.both(cells[pair], row)
    return True


def touched(board, pair):
    """What is to be looked at where the pair's cell has changed: a pair, and the thing in its middle."""
    a, b = pair
    found = []
    for c in names_of(board.basis[0]):
        if c not in pair:
            found.append((min(a, c), max(a, c), b))
            found.append((min(b, c), max(b, c), a))
    return found


def close(board, cells, changed):
    """Narrows the cells, where those of some pairs are new, as far as can be; the number of a fault if one comes."""
    todo = list(changed)
    while todo:
        pair = todo.pop(0)
        for a, c, middle in touched(board, pair):
            if narrow(board, cells, (a, c), middle):
                if board.words_by(cells, a, c) == ():
                    return cells[(a, c)]
                if (a, c) not in todo:
                    todo.append((a, c))
    return None


def closed_cells(board):
    """The closed cells of the board's talk, and the number of a fault, or None where none came."""
    cells = said_cells(board)
    fault = fault_in(board, cells)
    if fault is None:
        fault = close(board, cells, list(cells))
    return cells, fault


def table_by(board, cells):
    """The table of the cells."""
    return tuple([board.draft.rows[number] for number in cells.values()])


def closed(talk):
    """("table", the greatest closed table), or ("clash", a paper), where there is none."""
    board = Board(talk, Behinds())
    cells, fault = closed_cells(board)
    if fault is not None:
        return ("clash", paper_of(board.draft, fault))
    return ("table", table_by(board, cells))
