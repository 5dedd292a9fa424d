"""Points 14, 15, 16: what comes of words behind one another, against times that the test lays out."""

import itertools
import random
import unittest

from whens.behind import behind_mays, behind_words, fits_three

from layouts import ALL_THREE_KINDS, TWO_STRETCHES, WORDS, Case, laid_out, some_mays, word_laid


def three_words(kinds):
    """Each three words, first with second, second with third, first with third, that some times of six marks have."""
    first, second, third = [laid_out(kind, range(6)) for kind in kinds]
    words = {}
    for at, to in ((0, 1), (1, 2), (0, 2)):
        two = (kinds[at], kinds[to])
        for one in laid_out(two[0], range(6)):
            for other in laid_out(two[1], range(6)):
                words[at, to, one, other] = word_laid(two, one, other)
    return set((words[0, 1, a, b], words[1, 2, b, c], words[0, 2, a, c])
               for a, b, c in itertools.product(first, second, third))


class Behind(Case):
    @classmethod
    def setUpClass(cls):
        cls.laid = {kinds: three_words(kinds) for kinds in ALL_THREE_KINDS}

    def found(self, kinds, ones, others):
        return tuple(word for word in WORDS[kinds[0], kinds[2]]
                     if any((one, other, word) in self.laid[kinds] for one in ones for other in others))

    def test_each_two_words(self):
        for kinds in ALL_THREE_KINDS:
            for one in WORDS[kinds[:2]]:
                for other in WORDS[kinds[1:]]:
                    found = behind_words(kinds, one, other)
                    self.assertExactly(found, self.found(kinds, (one,), (other,)))
                    self.assertTrue(found)

    def test_mays(self):
        dice = random.Random(15)
        for kinds in ALL_THREE_KINDS:
            for one in some_mays(kinds[:2], dice, 8):
                for other in some_mays(kinds[1:], dice, 8):
                    self.assertExactly(behind_mays(kinds, one, other), self.found(kinds, one, other))

    def test_mays_of_none(self):
        for kinds in ALL_THREE_KINDS:
            self.assertExactly(behind_mays(kinds, (), WORDS[kinds[1:]]), ())
            self.assertExactly(behind_mays(kinds, WORDS[kinds[:2]], ()), ())
            self.assertExactly(behind_mays(kinds, (), ()), ())

    def test_three_words_fit(self):
        for kinds in ALL_THREE_KINDS:
            for three in itertools.product(WORDS[kinds[:2]], WORDS[kinds[1:]], WORDS[kinds[0], kinds[2]]):
                self.assertSays(three in self.laid[kinds], fits_three, kinds, *three)

    def test_asked_again_the_same(self):
        kinds = ("stretch",) * 3
        before = behind_words(kinds, "overlaps", "lapped")
        behind_mays(kinds, WORDS[TWO_STRETCHES], WORDS[TWO_STRETCHES])
        behind_words(("point", "stretch", "point"), "ends", "ended")
        self.assertExactly(behind_words(kinds, "overlaps", "lapped"), before)

    def test_written_out(self):
        stretches = ("stretch",) * 3
        self.assertExactly(behind_words(stretches, "meets", "met"), ("ends", "same", "ended"))
        self.assertExactly(behind_words(stretches, "overlaps", "overlaps"), ("ahead", "meets", "overlaps"))
        self.assertExactly(behind_words(("point", "stretch", "point"), "ends", "ended"), ("same",))
        self.assertExactly(behind_words(("point", "point", "stretch"), "same", "within"), ("within",))
        self.assertExactly(behind_words(("stretch", "point", "stretch"), "ended", "begins"), ("meets",))
        self.assertExactly(behind_words(("point",) * 3, "ahead", "behind"), ("ahead", "same", "behind"))


if __name__ == "__main__":
    unittest.main()
