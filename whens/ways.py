"""All full tables of a talk, gap sayings passed over."""

from whens.behind import Behinds
from whens.closing import Board, table_by
from whens.errors import TooMany
from whens.settling import settle, state_of_words

MOST_TABLES = 500


def go_on(board, state, at, found):
    """Puts behind those found all full tables within the settled state, whose pairs ahead of a place have one word."""
    pairs = list(state.cells)
    if at == len(pairs):
        # A word is plain; so of the settled state of single words some telling has them all, and keeps its bounds.
        if len(found) == MOST_TABLES:
            raise TooMany("tables")
        found.append(table_by(board, state.cells))
        return
    pair = pairs[at]
    for word in board.words_by(state.cells, pair[0], pair[1]):
        inner = state.copied()
        inner.cells[pair] = board.draft.suppose(pair + ((word,),), 0)
        if settle(board, inner, [pair]) is None:
            go_on(board, inner, at + 1, found)


def ways(talk):
    """The full tables whose words some one fitting telling has, in order."""
    board = Board(talk, Behinds())
    state, shut = state_of_words(board)
    found = []
    if shut is None:
        go_on(board, state, 0, found)
    return found
