"""What can be of two things, gap sayings passed over, each with what shows it."""

from whens.behind import Behinds
from whens.deciding import decided_by
from whens.talks import with_saying
from whens.tellings import kinds_of, pairs_of, word_between
from whens.words import words_of


def words_found(talk, a, b, tellings, behinds):
    """The words of a and b in fitting tellings; some of these are handed in, those that are found put behind them."""
    found = [word_between(talk[0], telling, a, b) for telling in tellings]
    words = words_of(kinds_of(talk[0], a, b))
    for word in words:
        if word not in found:
            answer, shown = decided_by(with_saying(talk, ("may", a, b, (word,))), behinds)
            if answer == "yes":
                tellings.append(shown)
                found.append(word)
    return tuple([word for word in words if word in found])


def can_be(talk, a, b):
    """The words that a and b have in some fitting telling."""
    return words_found(talk, a, b, [], Behinds())


def asked(talk, a, b, word):
    """("yes", a fitting telling that has the word), or ("no", a paper of the talk with this word said behind)."""
    return decided_by(with_saying(talk, ("may", a, b, (word,))), Behinds())


def what_can_be(talk):
    """The table of what can be of each two things."""
    behinds = Behinds()
    answer, shown = decided_by(talk, behinds)
    if answer == "no":
        return tuple([(a, b, ()) for a, b in pairs_of(talk[0])])
    # Each telling that fits shows a word for each two things, so few are sought.
    tellings = [shown]
    return tuple([(a, b, words_found(talk, a, b, tellings, behinds)) for a, b in pairs_of(talk[0])])


def follows(talk, a, b, words):
    """("yes", a paper of the talk with the words lacking said behind), or ("no", a telling that has one of these)."""
    lacking = tuple([word for word in words_of(kinds_of(talk[0], a, b)) if word not in words])
    answer, shown = decided_by(with_saying(talk, ("may", a, b, lacking)), Behinds())
    return ("no" if answer == "yes" else "yes", shown)
