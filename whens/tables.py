"""Tables of what two things may have, one word or more for each two, and what a talk says of each two."""

from whens.behind import behind_mays
from whens.tellings import kinds_of, names_of
from whens.words import turned_may, words_of


def words_at(things, table, a, b):
    """The words of the table at two things, in whichever order they are named."""
    for first, second, words in table:
        if (first, second) == (a, b):
            return words
        if (first, second) == (b, a):
            return turned_may(words)
    return None


def within(one, other):
    """Whether the one table lies within the other one of the same things."""
    return all([word in around[2] for row, around in zip(one, other) for word in row[2]])


def words_told(saying, a, b):
    """The words that a saying tells of a and b, in whichever order it names them; None where it tells none of them."""
    if saying[0] == "may" and saying[1:3] == (a, b):
        return saying[3]
    if saying[0] == "may" and saying[1:3] == (b, a):
        return turned_may(saying[3])
    return None


def said(talk, a, b):
    """The words that stand in each may saying of the two things."""
    found = words_of(kinds_of(talk[0], a, b))
    for saying in talk[1]:
        words = words_told(saying, a, b)
        if words is not None:
            found = tuple([word for word in found if word in words])
    return found


def words_through(things, table, a, b, c):
    """What a and b can have by the table's words of a and c, and of c and b."""
    kinds = (kinds_of(things, a, c)[0],) + kinds_of(things, c, b)
    return behind_mays(kinds, words_at(things, table, a, c), words_at(things, table, c, b))


def is_closed_at(talk, table, row):
    """Whether the words of the table's row are said, and stand in what comes through each third thing."""
    things = talk[0]
    a, b, words = row
    grounds = [words_through(things, table, a, b, c) for c in names_of(things) if c not in (a, b)]
    grounds.append(said(talk, a, b))
    return all([word in ground for ground in grounds for word in words])


def is_closed(talk, table):
    """Whether the table is closed for the talk."""
    # A row without words would make all that comes of it stand, though no such table is meant.
    if () in [words for a, b, words in table]:
        return False
    return all([is_closed_at(talk, table, row) for row in table])


def as_talk(things, table):
    """The talk that says just what the table has."""
    sayings = [("may",) + row for row in table if row[2] != words_of(kinds_of(things, row[0], row[1]))]
    return (things, tuple(sayings))
