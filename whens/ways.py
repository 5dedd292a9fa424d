"""All full tables of a talk, gap sayings passed over."""

from whens.behind import Behinds
from whens.closing import Board, close, closed_cells, table_by
from whens.errors import TooMany

MOST_TABLES = 500


def go_on(board, cells, at, found):
    """Puts behind those found all full tables within the closed cells, whose pairs ahead of a place have one word."""
    pairs = list(cells)
    if at == len(pairs):
        # A word is plain; so of the closed table of single words some telling has them all.
        if len(found) == MOST_TABLES:
            raise TooMany("tables")
        found.append(table_by(board, cells))
        return
    pair = pairs[at]
    for word in board.words_by(cells, pair[0], pair[1]):
        inner = dict(cells)
        inner[pair] = board.draft.suppose(pair + ((word,),), 0)
        if close(board, inner, [pair]) is None:
            go_on(board, inner, at + 1, found)


def ways(talk):
    """The full tables whose words some one fitting telling has, in order."""
    board = Board(talk, Behinds())
    cells, shut = closed_cells(board)
    found = []
    if shut is None:
        go_on(board, cells, 0, found)
    return found
