"""The words of two things, and how by each word the ends of the one stand to the ends of the other."""

from whens.fractions import is_below

ORDER = (
    "ahead", "meets", "overlaps", "begins", "within", "ends", "same",
    "ended", "holds", "begun", "lapped", "met", "behind",
)

# Two stretches have all words of ORDER.
POINT_WORDS = {
    ("point", "point"): ("ahead", "same", "behind"),
    ("point", "stretch"): ("ahead", "begins", "within", "ends", "behind"),
    ("stretch", "point"): ("ahead", "ended", "holds", "begun", "behind"),
}

# As of two stretches: the one's begin to the other's begin and end, then the one's end to both of them.
WAYS = {
    "ahead": (-1, -1, -1, -1),
    "meets": (-1, -1, 0, -1),
    "overlaps": (-1, -1, 1, -1),
    "begins": (0, -1, 1, -1),
    "within": (1, -1, 1, -1),
    "ends": (1, -1, 1, 0),
    "same": (0, -1, 1, 0),
    "ended": (-1, -1, 1, 0),
    "holds": (-1, -1, 1, 1),
    "begun": (0, -1, 1, 1),
    "lapped": (1, -1, 1, 1),
    "met": (1, 0, 1, 1),
    "behind": (1, 1, 1, 1),
}

END_COUNTS = {"point": 1, "stretch": 2}


def words_of(kinds):
    """The words of two things of these kinds, in ORDER."""
    return POINT_WORDS.get(kinds, ORDER)


def is_may(kinds, thing):
    """Whether any plain thing is a may of two things of these kinds."""
    if not isinstance(thing, tuple):
        return False
    left = words_of(kinds)
    for word in thing:
        if word not in left:
            return False
        left = left[left.index(word) + 1:]
    return True


def turned(word):
    """The word of b and a, where this one is of a and b."""
    return ORDER[12 - ORDER.index(word)]


def turned_may(may):
    """The may of b and a, where this one is of a and b."""
    return tuple([turned(word) for word in reversed(may)])


def ways_by(kinds, word):
    """By the word each end of the first thing to each of the second: all of its first end, then of its second."""
    ways = WAYS[word]
    if kinds == ("stretch", "stretch"):
        return ways
    if kinds == ("point", "point"):
        return ways[:1]
    # A point's time is both its begin and its end, so a word holds it as begin to begins and as end to ends.
    return (ways[0], ways[3])


def how_ends(kinds, word, x, y):
    """How end x of the first thing stands to end y of the second by the word: -1 earlier, 0 alike, 1 later."""
    return ways_by(kinds, word)[x * END_COUNTS[kinds[1]] + y]


def words_where(kinds, may, x, y, ways):
    """The words of the may by which end x of the first thing stands to end y of the second in one of the ways."""
    return tuple([word for word in may if how_ends(kinds, word, x, y) in ways])


def is_point(times):
    """Whether times are a point's."""
    return not isinstance(times[0], tuple)


def way_of(one, other):
    """How a time stands to another one: -1 earlier, 0 alike, 1 later."""
    if is_below(one, other):
        return -1
    if is_below(other, one):
        return 1
    return 0


def word_of(one, other):
    """The one word that is so of two things with these times."""
    kinds = ("point" if is_point(one) else "stretch", "point" if is_point(other) else "stretch")
    ones = (one,) if is_point(one) else one
    others = (other,) if is_point(other) else other
    ways = tuple([way_of(x, y) for x in ones for y in others])
    return [word for word in words_of(kinds) if ways_by(kinds, word) == ways][0]
