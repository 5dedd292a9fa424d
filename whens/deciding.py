"""Any talks, gap sayings passed over: a telling that fits, or a paper by cases of plain parts."""

from whens.behind import Behinds
from whens.drafts import paper_of
from whens.earliest import earliest
from whens.seeking import Search, sought
from whens.settling import state_of_words
from whens.tables import as_talk


def plain_table(board, state):
    """A plain table of the words that were chosen and, where none were, of the words that are left."""
    # The words that are left are a closed table within this one, so some telling has this one's words.
    return tuple([
        pair + (state.chosen[pair] if pair in state.chosen else board.words_by(state.cells, pair[0], pair[1]),)
        for pair in state.cells
    ])


def decided_by(talk, behinds):
    """As decided tells, with what was reckoned of mays behind one another."""
    search = Search(talk, behinds)
    state, found = state_of_words(search.board)
    word = "no"
    if found is None:
        word, found = sought(search, state)
    if word == "no":
        return ("no", paper_of(search.board.draft, found))
    return earliest(as_talk(talk[0], plain_table(search.board, found)))


def decided(talk):
    """("yes", a fitting telling), or ("no", a paper)."""
    return decided_by(talk, Behinds())
