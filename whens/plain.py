"""Plain mays: those that bounds tell, end by end, with no "unlike" among them."""

from whens.words import END_COUNTS, how_ends, ways_by, words_of


def signs_in(kinds, may, x, y):
    """The ways, rising, in which end x of the first thing stands to end y of the second in some word of the may."""
    return tuple(sorted({how_ends(kinds, word, x, y) for word in may}))


def span_of(signs):
    """The signs, with alike among them where earlier and later are."""
    return (-1, 0, 1) if -1 in signs and 1 in signs else signs


def spans_of(kinds, may):
    """The spans of the may's signs for each end of the first thing and each of the second, as ways_by has them."""
    return [
        span_of(signs_in(kinds, may, x, y))
        for x in range(END_COUNTS[kinds[0]])
        for y in range(END_COUNTS[kinds[1]])
    ]


def plain_around(kinds, may):
    """The least plain may that has all words of the may."""
    spans = spans_of(kinds, may)
    return tuple([
        word for word in words_of(kinds)
        if all([way in span for way, span in zip(ways_by(kinds, word), spans)])
    ])


def is_plain(kinds, may):
    """Whether the may is plain."""
    return plain_around(kinds, may) == may


def grown_part(kinds, may, word):
    """A plain may of words of the may alone that has the word, and to which no word of the may can be added so."""
    part = (word,)
    for other in may:
        wider = plain_around(kinds, part + (other,))
        if all([chosen in may for chosen in wider]):
            part = wider
    return part


def plain_parts(kinds, may):
    """Plain mays of one word or more that together have just the words of the may; each is as wide as can be."""
    parts = []
    for word in may:
        if not any([word in part for part in parts]):
            parts.append(grown_part(kinds, may, word))
    return tuple(parts)
