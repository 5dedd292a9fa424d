"""What a first and a third thing can have, by the words of the first with a second, of the second with the third."""

from whens.words import END_COUNTS, ways_by, words_of


def forced_way(one, other):
    """How a first end stands to a third, by its way to a second and that one's to the third; None where it is free."""
    if one == 0:
        return other
    if other == 0 or other == one:
        return one
    return None


def forced_by(ones, others):
    """The way that some second end forces; by real words no two of these force unlike ones."""
    for one, other in zip(ones, others):
        way = forced_way(one, other)
        if way is not None:
            return way
    return None


def forced_ways(kinds, one, other):
    """Each end of the first thing to each of the third: the way that both words force, or None."""
    first, second, third = kinds
    many = END_COUNTS[second]
    step = END_COUNTS[third]
    left = ways_by((first, second), one)
    right = ways_by((second, third), other)
    return [
        forced_by(left[x * many:(x + 1) * many], right[z::step])
        for x in range(END_COUNTS[first])
        for z in range(step)
    ]


def go_with(forced, ways):
    """Whether all ways are as forced, where they are."""
    for must, way in zip(forced, ways):
        if must is not None and must != way:
            return False
    return True


def behind_words(kinds, one, other):
    """All words that the first and the third have in some telling where the two words are so."""
    first, second, third = kinds
    ends = (first, third)
    forced = forced_ways(kinds, one, other)
    return tuple([word for word in words_of(ends) if go_with(forced, ways_by(ends, word))])


class Behinds:
    """What was reckoned of words and mays behind one another, each kept to be found again."""

    def __init__(self):
        self.by_words = {}
        self.by_mays = {}

    def words(self, kinds, one, other):
        """As behind_words tells."""
        key = (kinds, one, other)
        if key not in self.by_words:
            self.by_words[key] = behind_words(kinds, one, other)
        return self.by_words[key]

    def mays(self, kinds, one, other):
        """As behind_mays tells."""
        key = (kinds, one, other)
        if key not in self.by_mays:
            self.by_mays[key] = self.gathered(kinds, one, other)
        return self.by_mays[key]

    def gathered(self, kinds, one, other):
        """All words that come of a word of the one may and a word of the other."""
        words = words_of((kinds[0], kinds[2]))
        found = {}
        for word in one:
            for next_word in other:
                # Nothing more can come, and wide mays come to this early.
                if len(found) == len(words):
                    return words
                for third in self.words(kinds, word, next_word):
                    found[third] = True
        return tuple([word for word in words if word in found])


def behind_mays(kinds, one, other):
    """All words that come of a word of the one may and a word of the other."""
    return Behinds().gathered(kinds, one, other)


def fits_three(kinds, one, other, third):
    """Whether some telling has the three words: first with second, second with third, first with third."""
    return third in behind_words(kinds, one, other)
