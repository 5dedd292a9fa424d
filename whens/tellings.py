"""Things, their ends, tellings of them (times for each), and tables (words for each two)."""

from whens.fractions import is_below, is_fraction, is_whole, less, plus, product
from whens.words import END_COUNTS, how_ends, is_may, word_of

LETTERS = "abcdefghijklmnopqrstuvwxyz"
LONGEST_NAME = 8
MOST_THINGS = 6


def is_name(thing):
    """Whether any plain thing is a name."""
    if not isinstance(thing, str) or not 1 <= len(thing) <= LONGEST_NAME:
        return False
    return all([sign in LETTERS for sign in thing])


def is_named_kind(thing):
    """Whether any plain thing is a tuple of a name and a kind."""
    return isinstance(thing, tuple) and len(thing) == 2 and is_name(thing[0]) and thing[1] in ("point", "stretch")


def is_things(thing):
    """Whether any plain thing is things."""
    if not isinstance(thing, tuple) or not 1 <= len(thing) <= MOST_THINGS:
        return False
    if not all([is_named_kind(part) for part in thing]):
        return False
    names = names_of(thing)
    return names == sorted(set(names))


def names_of(things):
    """The names of the things, in order."""
    return [name for name, kind in things]


def kinds_of(things, a, b):
    """The kinds of two named things."""
    kinds = dict(things)
    return (kinds[a], kinds[b])


def are_two_names(things, a, b):
    """Whether any two plain things are names of two unlike things."""
    names = names_of(things)
    return a in names and b in names and a != b


def pairs_of(things):
    """The names of each two things, the first ahead of the second, in the order of a table."""
    names = names_of(things)
    return [(a, b) for at, a in enumerate(names) for b in names[at + 1:]]


def ends_of(things):
    """All ends of the things, in order."""
    return [(name, number) for name, kind in things for number in range(END_COUNTS[kind])]


def is_end(things, thing):
    """Whether any plain thing is an end of one of the things."""
    if not isinstance(thing, tuple) or len(thing) != 2:
        return False
    # Looked at first, as True would else be taken for 1.
    return is_whole(thing[1]) and thing in ends_of(things)


def are_times(kind, thing):
    """Whether any plain thing is times of a thing of the kind."""
    if kind == "point":
        return is_fraction(thing)
    if not isinstance(thing, tuple) or len(thing) != 2:
        return False
    begin, end = thing
    return is_fraction(begin) and is_fraction(end) and is_below(begin, end)


def is_telling(things, thing):
    """Whether any plain thing is a telling of the things."""
    if not isinstance(thing, tuple) or len(thing) != len(things):
        return False
    return all([are_times(kind, times) for (name, kind), times in zip(things, thing)])


def is_table_row(things, names, thing):
    """Whether any plain thing is a table's row of the two names."""
    if not isinstance(thing, tuple) or len(thing) != 3:
        return False
    a, b = names
    return thing[0] == a and thing[1] == b and is_may(kinds_of(things, a, b), thing[2])


def is_table(things, thing):
    """Whether any plain thing is a table of the things."""
    pairs = pairs_of(things)
    if not isinstance(thing, tuple) or len(thing) != len(pairs):
        return False
    return all([is_table_row(things, names, row) for names, row in zip(pairs, thing)])


def times_of(things, telling, name):
    """The times of the named thing."""
    return telling[names_of(things).index(name)]


def time_of(things, telling, end):
    """The time of an end."""
    name, number = end
    times = times_of(things, telling, name)
    return times if dict(things)[name] == "point" else times[number]


def word_between(things, telling, a, b):
    """The word that is so of two named things."""
    return word_of(times_of(things, telling, a), times_of(things, telling, b))


def is_gap_met(things, telling, gap):
    """Whether of a gap (x, y, number, strict) x's time less y's is at most number, below it where strict."""
    x, y, number, strict = gap
    apart = less(time_of(things, telling, x), time_of(things, telling, y))
    return is_below(apart, number) if strict else not is_below(number, apart)


def table_of(things, telling):
    """The table of the words that are so."""
    return tuple([(a, b, (word_between(things, telling, a, b),)) for a, b in pairs_of(things)])


def telling_of(things, laid):
    """The telling in which each end has the time that is laid for it."""
    found = []
    for name, kind in things:
        times = [laid[(name, number)] for number in range(END_COUNTS[kind])]
        found.append(times[0] if kind == "point" else tuple(times))
    return tuple(found)


def earlier_counts(things, table):
    """For each end, by a table of single words, how many ends are earlier."""
    # Of a stretch's own ends one is earlier than its end, none than its begin: as many as their numbers tell.
    counts = {end: end[1] for end in ends_of(things)}
    for a, b, words in table:
        kinds = kinds_of(things, a, b)
        for x in range(END_COUNTS[kinds[0]]):
            for y in range(END_COUNTS[kinds[1]]):
                way = how_ends(kinds, words[0], x, y)
                if way == -1:
                    counts[(b, y)] += 1
                if way == 1:
                    counts[(a, x)] += 1
    return counts


def telling_by(things, table):
    """Any telling that has just the single words of the table, or None where none has."""
    # Where some telling has the words, an end that is earlier has fewer ends ahead of it, and alike ends as many:
    # so these counts, taken as times, have the words, too, or no times have. (In each word a stretch's end is later
    # than all that its begin is later than, so its count is always above its begin's.)
    counts = earlier_counts(things, table)
    found = telling_of(things, {end: (counts[end], 1) for end in counts})
    return found if table_of(things, found) == table else None


def moved(things, telling, times, more):
    """The telling with each time multiplied by the first fraction, above 0, and the second one added."""
    found = []
    for (name, kind), old in zip(things, telling):
        ends = (old,) if kind == "point" else old
        new = [plus(product(time, times), more) for time in ends]
        found.append(new[0] if kind == "point" else tuple(new))
    return tuple(found)
