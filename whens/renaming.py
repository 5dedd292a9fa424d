"""Things by other names: talks, tellings, tables and papers with the new names where the elder stood."""

from whens.tables import words_at
from whens.tellings import names_of, pairs_of, times_of


def renamed_things(things, names):
    """The things by their new names, rising."""
    return tuple(sorted([(names[name], kind) for name, kind in things]))


def elder_names(names):
    """For each new name the elder one."""
    return {new: elder for elder, new in names.items()}


def renamed_end(end, names):
    """The end by its thing's new name."""
    return (names[end[0]], end[1])


def renamed_saying(saying, names):
    """The saying with the new names."""
    if saying[0] == "may":
        word, a, b, words = saying
        return (word, names[a], names[b], words)
    word, x, y, number, strict = saying
    return (word, renamed_end(x, names), renamed_end(y, names), number, strict)


def renamed(talk, names):
    """The talk with the new names."""
    things, sayings = talk
    return (renamed_things(things, names), tuple([renamed_saying(saying, names) for saying in sayings]))


def renamed_telling(things, names, telling):
    """The telling by the new order of the things."""
    elder = elder_names(names)
    return tuple([times_of(things, telling, elder[new]) for new in names_of(renamed_things(things, names))])


def renamed_table(things, names, table):
    """The table by the new order of the things, mays turned where a pair is turned round."""
    elder = elder_names(names)
    pairs = pairs_of(renamed_things(things, names))
    return tuple([(a, b, words_at(things, table, elder[a], elder[b])) for a, b in pairs])


def renamed_step(names, step):
    """The step with the new names."""
    if step[0] in ("any", "long"):
        return step[:1] + tuple([names[name] for name in step[1:]])
    if step[0] == "ends":
        return step[:2] + tuple([renamed_end(end, names) for end in step[2:]])
    if step[0] == "cases":
        return step[:2] + (tuple([(words, renamed_paper(names, paper)) for words, paper in step[2]]),)
    return step


def renamed_paper(names, paper):
    """The paper with the new names."""
    return tuple([renamed_step(names, step) for step in paper])
