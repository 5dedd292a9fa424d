"""Any talks, gap sayings passed over: a telling that fits, or a paper by cases of plain parts."""

from whens.behind import Behinds
from whens.closing import Board, close, closed_cells
from whens.drafts import paper_of
from whens.earliest import earliest
from whens.plain import plain_parts
from whens.tables import as_talk


class Search:
    """What is kept while plain parts are chosen: the board, and the parts of mays that were met already."""

    def __init__(self, talk, behinds):
        self.board = Board(talk, behinds)
        self.parts = {}

    def parts_by(self, cells, pair):
        """Plain parts of the words that the cells have for a pair."""
        a, b = pair
        kinds = (self.board.kinds[a], self.board.kinds[b])
        key = (kinds, self.board.words_by(cells, a, b))
        if key not in self.parts:
            self.parts[key] = plain_parts(key[0], key[1])
        return self.parts[key]


def pair_to_part(search, cells, chosen):
    """The pair, not chosen for yet, whose words have the fewest plain parts from two on; None where there is none."""
    best = None
    fewest = 0
    for pair in cells:
        many = len(search.parts_by(cells, pair))
        if pair not in chosen and many > 1 and (best is None or many < fewest):
            best = pair
            fewest = many
    return best


def plain_table(search, cells, chosen):
    """A plain table of the parts that were chosen and, where none was, of the words that the cells have."""
    # The cells are a closed table within this one, so some telling has this one's words. Chosen once for each two, the
    # parts lie no deeper within one another than there are such: ten of five things.
    return tuple([
        pair + (chosen[pair] if pair in chosen else search.board.words_by(cells, pair[0], pair[1]),)
        for pair in cells
    ])


def sought_in_part(search, cells, chosen, pair, words):
    """What is sought where the pair has one of the words: (the supposed row, "yes" or "no", what was found)."""
    board = search.board
    supposed = board.draft.suppose(pair + (words,), 1 << len(chosen))
    inner = dict(cells)
    inner[pair] = supposed
    shut = close(board, inner, [pair])
    if shut is not None:
        return (supposed, "no", shut)
    chosen = dict(chosen)
    chosen[pair] = words
    word, found = sought(search, inner, chosen)
    return (supposed, word, found)


def sought(search, cells, chosen):
    """("yes", a plain table that is said and that some telling has), or ("no", the number of what shuts the cells)."""
    pair = pair_to_part(search, cells, chosen)
    if pair is None:
        return ("yes", plain_table(search, cells, chosen))
    draft = search.board.draft
    parts = []
    for words in search.parts_by(cells, pair):
        supposed, word, found = sought_in_part(search, cells, chosen, pair, words)
        # What shuts a part without its words shuts all, and no other part need be looked at.
        if word == "yes" or not draft.comes_of(found, supposed):
            return (word, found)
        parts.append((words, supposed, found))
    return ("no", draft.part_cases(cells[pair], parts))


def decided_by(talk, behinds):
    """As decided tells, with what was reckoned of mays behind one another."""
    search = Search(talk, behinds)
    cells, shut = closed_cells(search.board)
    word = "no"
    found = shut
    if shut is None:
        word, found = sought(search, cells, {})
    if word == "no":
        return ("no", paper_of(search.board.draft, found))
    return earliest(as_talk(talk[0], found))


def decided(talk):
    """("yes", a fitting telling), or ("no", a paper)."""
    return decided_by(talk, Behinds())
