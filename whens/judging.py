"""Judging talks, words and gaps: a telling that keeps all, or a paper; and what two things can have."""

from whens.behind import Behinds
from whens.bounds import laid_times
from whens.checker import is_let_by
from whens.closing import Board
from whens.drafts import paper_of
from whens.fractions import common, product
from whens.seeking import Search, sought
from whens.settling import state_of_all
from whens.talks import keeps, with_saying
from whens.tellings import is_telling, kinds_of, word_between
from whens.ways import go_on
from whens.words import words_of


def whole_scale(talk):
    """A whole number that makes each gap's number a whole one."""
    scale = 1
    for saying in talk[1]:
        if saying[0] == "gap":
            bottom = saying[3][1]
            scale *= bottom // common(scale, bottom)
    return scale


def in_whole_gaps(talk, scale):
    """The talk with each gap so many times as long."""
    sayings = [
        saying[:3] + (product(saying[3], (scale, 1)), saying[4]) if saying[0] == "gap" else saying
        for saying in talk[1]
    ]
    return (talk[0], tuple(sayings))


def weighed(talk, behinds):
    """("yes", bounds of ends), which some tellings keep, and all that do keep the talk; or ("no", a paper)."""
    # Sums of whole numbers stay short. No step names a number of a gap, so papers are the same for both talks.
    scale = whole_scale(talk)
    search = Search(in_whole_gaps(talk, scale), behinds)
    draft = search.board.draft
    state, found = state_of_all(search.board)
    word = "no"
    if found is None:
        word, found = sought(search, state)
    if word == "no":
        return ("no", paper_of(draft, found))
    rows = {ends: draft.rows[number] for ends, number in found.bounds.items()}
    return ("yes", {ends: (product(rows[ends][2], (1, scale)), rows[ends][3]) for ends in rows})


def judged_by(talk, behinds):
    """As judged tells, with what was reckoned of mays behind one another."""
    word, found = weighed(talk, behinds)
    if word == "no":
        return ("no", found)
    return ("yes", laid_times(talk[0], found, {}))


def judged(talk):
    """("yes", a telling that keeps the talk), or ("no", a paper)."""
    return judged_by(talk, Behinds())


def is_answer(talk, thing):
    """Whether any plain thing is a right answer for the talk."""
    if not isinstance(thing, tuple) or len(thing) != 2:
        return False
    word, shown = thing
    if word == "yes":
        return is_telling(talk[0], shown) and keeps(talk, shown)
    return word == "no" and is_let_by(talk, shown)


def full_tables(talk):
    """The full tables that some telling which keeps the talk has, in order."""
    board = Board(in_whole_gaps(talk, whole_scale(talk)), Behinds())
    state, shut = state_of_all(board)
    found = []
    if shut is None:
        go_on(board, state, 0, found)
    return found


def answer_with(talk, a, b, word, behinds):
    """An answer for the talk with the word said of a and b behind its others."""
    return judged_by(with_saying(talk, ("may", a, b, (word,))), behinds)


def can_have(talk, a, b):
    """The words that a and b have in some telling that keeps the talk."""
    behinds = Behinds()
    answer, shown = judged_by(talk, behinds)
    if answer == "no":
        return ()
    had = word_between(talk[0], shown, a, b)
    words = words_of(kinds_of(talk[0], a, b))
    return tuple([word for word in words if word == had or answer_with(talk, a, b, word, behinds)[0] == "yes"])


def shown_have(talk, a, b):
    """For each word that a and b could have an answer for the talk with that word said of them behind its others."""
    behinds = Behinds()
    words = words_of(kinds_of(talk[0], a, b))
    return tuple([(word, answer_with(talk, a, b, word, behinds)) for word in words])
