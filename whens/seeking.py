"""Seeking: plain parts of what is said of two things are chosen by cases until all is plain, or all is shut."""

from whens.closing import Board
from whens.plain import plain_parts
from whens.settling import settle


class Search:
    """What is kept while plain parts are chosen: the board, and the parts of mays that were met already."""

    def __init__(self, talk, behinds):
        self.board = Board(talk, behinds)
        self.parts = {}

    def parts_by(self, cells, pair):
        """Plain parts of the words that the cells have for a pair."""
        a, b = pair
        kinds = (self.board.kinds[a], self.board.kinds[b])
        key = (kinds, self.board.words_by(cells, a, b))
        if key not in self.parts:
            self.parts[key] = plain_parts(key[0], key[1])
        return self.parts[key]


def pair_to_part(search, state):
    """The pair, not chosen for yet, whose words have the fewest plain parts from two on; None where there is none."""
    best = None
    fewest = 0
    for pair in state.cells:
        many = len(search.parts_by(state.cells, pair))
        if pair not in state.chosen and many > 1 and (best is None or many < fewest):
            best = pair
            fewest = many
    return best


def sought_in_part(search, state, pair, words):
    """What is sought where the pair has one of the words: (the supposed row, "yes" or "no", what was found)."""
    board = search.board
    supposed = board.draft.suppose(pair + (words,), 1 << len(state.chosen))
    inner = state.copied()
    inner.cells[pair] = supposed
    inner.chosen[pair] = words
    shut = settle(board, inner, [pair])
    if shut is not None:
        return (supposed, "no", shut)
    word, found = sought(search, inner)
    return (supposed, word, found)


def sought(search, state):
    """("yes", a state in which all is plain, or chosen), or ("no", the number of what shuts the state)."""
    # Words are chosen once for each two things, so that cases lie no deeper within one another than there are such:
    # ten of five things. What was chosen is plain, even where the words that are left of it then are not.
    pair = pair_to_part(search, state)
    if pair is None:
        return ("yes", state)
    draft = search.board.draft
    parts = []
    for words in search.parts_by(state.cells, pair):
        supposed, word, found = sought_in_part(search, state, pair, words)
        # What shuts a part without its words shuts all, and no other part need be looked at.
        if word == "yes" or not draft.comes_of(found, supposed):
            return (word, found)
        parts.append((words, supposed, found))
    return ("no", draft.part_cases(state.cells[pair], parts))
