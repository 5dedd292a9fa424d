"""Points 11, 12, 13: words and mays of two things, by their times and by their ends."""

import itertools
import random
import unittest
from fractions import Fraction

from whens.words import how_ends, is_may, turned, turned_may, word_of, words_of, words_where

from layouts import (
    ALL_KINDS, ODD, ORDER, POINT_STRETCH, STRETCH_POINT, TURNED, TWO_POINTS, TWO_STRETCHES, WORDS, Case, end_numbers,
    laid_out, some_mays, times_laid, way, word_laid,
)

MARKS = (Fraction(-7, 3), Fraction(-1, 2), Fraction(0), Fraction(2, 7), Fraction(1, 3), Fraction(5))
GREAT = 10 ** 39
CLOSE = (Fraction(GREAT, 7), Fraction(GREAT + 1, 7), Fraction(GREAT, 6), Fraction(-GREAT, GREAT - 1), Fraction(-1))
WAY_SETS = [ways for many in range(4) for ways in itertools.permutations((-1, 0, 1), many)]


class Mays(Case):
    def test_words_of_each_kinds(self):
        for kinds in ALL_KINDS:
            self.assertExactly(words_of(kinds), WORDS[kinds])

    def test_mays_are_all_choices_in_order(self):
        for kinds in (TWO_POINTS, POINT_STRETCH, STRETCH_POINT):
            for many in range(6):
                for may in itertools.combinations(WORDS[kinds], many):
                    self.assertSays(True, is_may, kinds, may)
        dice = random.Random(11)
        for may in some_mays(TWO_STRETCHES, dice, 300):
            self.assertSays(True, is_may, TWO_STRETCHES, may)

    def test_all_but_one_in_order_are_none(self):
        for kinds in ALL_KINDS:
            for one, other in itertools.product(WORDS[kinds], repeat=2):
                rises = WORDS[kinds].index(one) < WORDS[kinds].index(other)
                self.assertSays(rises, is_may, kinds, (one, other))
            self.assertSays(False, is_may, kinds, WORDS[kinds][::-1])
            self.assertSays(False, is_may, kinds, WORDS[kinds] + WORDS[kinds][-1:])
            self.assertSays(False, is_may, kinds, WORDS[kinds][:1] + WORDS[kinds])

    def test_words_of_other_kinds(self):
        for kinds in ALL_KINDS:
            for word in ORDER:
                self.assertSays(word in WORDS[kinds], is_may, kinds, (word,))
        self.assertSays(False, is_may, POINT_STRETCH, ("ahead", "ended"))
        self.assertSays(False, is_may, TWO_POINTS, ("ahead", "within", "same"))

    def test_no_tuple_of_texts(self):
        for kinds in ALL_KINDS:
            for thing in (["ahead"], list(WORDS[kinds]), [], "ahead", "", None, True, False, 0, 5, (None,), (True,),
                          (0,), ("",), ("ahead", None), ("ahead", True), ("ahead", ["behind"]), (("ahead",),),
                          (["ahead"],), ("ahead", "behind", 12), ("Ahead",), ("ahead ",), ("ahead behind",), ("a",)):
                self.assertSays(False, is_may, kinds, thing)

    def test_plain_things_of_all_sorts(self):
        for kinds in ALL_KINDS:
            for thing in ODD:
                self.assertSays(False, is_may, kinds, thing)

    def test_turned_word(self):
        for place, word in enumerate(ORDER):
            self.assertExactly(turned(word), TURNED[word])
            self.assertExactly(turned(word), ORDER[12 - place])
            self.assertExactly(turned(turned(word)), word)

    def test_turned_may(self):
        dice = random.Random(12)
        for kinds in ALL_KINDS:
            for may in some_mays(kinds, dice, 60):
                wanted = tuple(word for word in ORDER if TURNED[word] in may)
                self.assertExactly(turned_may(may), wanted)
                self.assertSays(True, is_may, kinds[::-1], turned_may(may))
                self.assertExactly(turned_may(turned_may(may)), may)


class ByTimes(Case):
    def each_two(self, marks):
        for kinds in ALL_KINDS:
            for one in laid_out(kinds[0], marks):
                for other in laid_out(kinds[1], marks):
                    yield kinds, one, other

    def test_words_by_times(self):
        met = {}
        for kinds, one, other in self.each_two(MARKS):
            wanted = word_laid(kinds, one, other)
            self.assertExactly(word_of(times_laid(kinds[0], one), times_laid(kinds[1], other)), wanted)
            met.setdefault(kinds, set()).add(wanted)
        for kinds in ALL_KINDS:
            self.assertEqual(met[kinds], set(WORDS[kinds]))

    def test_times_of_forty_figures_that_lie_close(self):
        for kinds, one, other in self.each_two(CLOSE):
            wanted = word_laid(kinds, one, other)
            self.assertExactly(word_of(times_laid(kinds[0], one), times_laid(kinds[1], other)), wanted)

    def test_written_out(self):
        for one, other, wanted in (
                ((1, 2), (1, 3), "behind"), ((1, 3), (1, 3), "same"), ((-1, 2), (1, 3), "ahead"),
                ((1, 2), ((1, 2), (2, 3)), "begins"), ((2, 3), ((1, 2), (2, 3)), "ends"),
                ((3, 5), ((1, 2), (2, 3)), "within"), ((0, 1), ((1, 2), (2, 3)), "ahead"),
                (((1, 2), (2, 3)), (1, 2), "begun"), (((1, 2), (2, 3)), (2, 3), "ended"),
                (((1, 2), (2, 3)), (3, 5), "holds"), (((1, 2), (2, 3)), (0, 1), "behind"),
                (((0, 1), (1, 3)), ((1, 3), (1, 2)), "meets"), (((0, 1), (2, 5)), ((1, 3), (1, 2)), "overlaps"),
                (((1, 3), (1, 2)), ((0, 1), (1, 3)), "met"), (((1, 3), (1, 2)), ((0, 1), (2, 5)), "lapped")):
            self.assertExactly(word_of(one, other), wanted)


class ByEnds(Case):
    def test_each_end_to_each_end(self):
        for kinds in ALL_KINDS:
            for one in laid_out(kinds[0], range(4)):
                for other in laid_out(kinds[1], range(4)):
                    word = word_laid(kinds, one, other)
                    for x, y in itertools.product(end_numbers(kinds[0]), end_numbers(kinds[1])):
                        self.assertExactly(how_ends(kinds, word, x, y), way(one[x], other[y]))

    def test_words_where(self):
        dice = random.Random(13)
        for kinds in ALL_KINDS:
            for may in some_mays(kinds, dice, 25):
                for x, y in itertools.product(end_numbers(kinds[0]), end_numbers(kinds[1])):
                    for ways in WAY_SETS:
                        wanted = tuple(word for word in may if self.way_by(kinds, word, x, y) in ways)
                        self.assertExactly(words_where(kinds, may, x, y, ways), wanted)

    def way_by(self, kinds, word, x, y):
        for one in laid_out(kinds[0], range(4)):
            for other in laid_out(kinds[1], range(4)):
                if word_laid(kinds, one, other) == word:
                    return way(one[x], other[y])
        raise AssertionError(word)

    def test_written_out(self):
        self.assertExactly(words_where(TWO_STRETCHES, ORDER, 1, 0, (0,)), ("meets",))
        self.assertExactly(words_where(TWO_STRETCHES, ORDER, 0, 0, (0,)), ("begins", "same", "begun"))
        self.assertExactly(words_where(TWO_STRETCHES, ORDER, 1, 1, (0,)), ("ends", "same", "ended"))
        self.assertExactly(words_where(TWO_STRETCHES, ORDER, 0, 1, (1, 0)), ("met", "behind"))
        self.assertExactly(words_where(POINT_STRETCH, WORDS[POINT_STRETCH], 0, 1, (0, -1)),
                           ("ahead", "begins", "within", "ends"))
        self.assertExactly(words_where(STRETCH_POINT, WORDS[STRETCH_POINT], 1, 0, (1,)), ("holds", "begun", "behind"))
        self.assertExactly(words_where(TWO_POINTS, ("ahead", "behind"), 0, 0, ()), ())


if __name__ == "__main__":
    unittest.main()
