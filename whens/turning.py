"""Time turned about: each time turns to its contrary, so a stretch's begin to its end."""

from whens.tellings import is_end
from whens.words import ORDER

# Those that aren't here turn to themselves.
MIRRORED = {
    "ahead": "behind", "meets": "met", "overlaps": "lapped", "begins": "ends", "ended": "begun",
    "behind": "ahead", "met": "meets", "lapped": "overlaps", "ends": "begins", "begun": "ended",
}


def mirrored_word(word):
    """The word turned about."""
    return MIRRORED.get(word, word)


def mirrored_may(words):
    """The words turned about, in ORDER."""
    found = [mirrored_word(word) for word in words]
    return tuple([word for word in ORDER if word in found])


def mirrored_end(things, end):
    """The other end of a stretch; what is no such end stays as it is."""
    if is_end(things, end) and dict(things)[end[0]] == "stretch":
        return (end[0], 1 - end[1])
    return end


def mirrored_saying(things, saying):
    """The saying turned about."""
    if saying[0] == "may":
        return saying[:3] + (mirrored_may(saying[3]),)
    word, x, y, number, strict = saying
    return (word, mirrored_end(things, y), mirrored_end(things, x), number, strict)


def mirrored(talk):
    """The talk turned about."""
    things, sayings = talk
    return (things, tuple([mirrored_saying(things, saying) for saying in sayings]))


def contrary(time):
    """The time on the other side of nought."""
    return (-time[0], time[1])


def mirrored_telling(things, telling):
    """The telling turned about."""
    found = []
    for (name, kind), times in zip(things, telling):
        if kind == "point":
            found.append(contrary(times))
        else:
            found.append((contrary(times[1]), contrary(times[0])))
    return tuple(found)


def mirrored_table(table):
    """The table turned about."""
    return tuple([(a, b, mirrored_may(words)) for a, b, words in table])


def mirrored_step(talk, step):
    """The step turned about."""
    if step[0] == "ends":
        word, i, x, y = step
        return (word, i, mirrored_end(talk[0], y), mirrored_end(talk[0], x))
    if step[0] == "add":
        word, i, j = step
        return (word, j, i)
    if step[0] == "cases":
        word, i, parts = step
        return (word, i, tuple([(mirrored_may(words), mirrored_paper(talk, paper)) for words, paper in parts]))
    return step


def mirrored_paper(talk, paper):
    """The paper turned about."""
    return tuple([mirrored_step(talk, step) for step in paper])
