"""Point 10: fractions of whole numbers of any size."""

import itertools
import random
import unittest
from fractions import Fraction

from whens.fractions import fraction, is_below, is_fraction, less, plus

from layouts import ODD, Case, pair

GREAT = 1234567890123456789012345678901234567891
SMALL = [(n, d) for n in range(-6, 7) for d in range(-6, 7) if d != 0]
LEAST = sorted(set(Fraction(n, d) for n, d in SMALL))


class Made(Case):
    def test_least_numbers_of_all_signs(self):
        for n, d in SMALL:
            self.assertExactly(fraction(n, d), pair(Fraction(n, d)))

    def test_written_out(self):
        for n, d, wanted in ((6, 4, (3, 2)), (-6, 4, (-3, 2)), (6, -4, (-3, 2)), (-6, -4, (3, 2)), (0, 7, (0, 1)),
                             (0, -7, (0, 1)), (5, 1, (5, 1)), (5, -1, (-5, 1)), (1, -3, (-1, 3)), (7, 7, (1, 1))):
            self.assertExactly(fraction(n, d), wanted)

    def test_forty_figures(self):
        for n, d in ((GREAT, 3), (GREAT * 7, 7), (7, GREAT * 7), (-GREAT, GREAT), (GREAT, -GREAT * 2),
                     (GREAT - 1, GREAT), (10 ** 39, 10 ** 39 + 1), (10 ** 39, 4 * 10 ** 38), (-10 ** 39, 6)):
            self.assertExactly(fraction(n, d), pair(Fraction(n, d)))

    def test_far_more_figures(self):
        n, d = 3 ** 900, -(3 ** 899) * 2
        self.assertExactly(fraction(n, d), (-3, 2))
        self.assertExactly(fraction(n + 1, d), pair(Fraction(n + 1, d)))


class Reckoned(Case):
    def numbers(self):
        dice = random.Random(10)
        great = [Fraction(dice.randrange(-10 ** 40, 10 ** 40), dice.randrange(1, 10 ** 40)) for at in range(12)]
        shared = [Fraction(GREAT, 6), Fraction(GREAT, 10), Fraction(-GREAT, 15), Fraction(GREAT + 1, 6)]
        return LEAST[::3] + great + shared

    def test_sum_and_difference(self):
        for one, other in itertools.product(self.numbers(), repeat=2):
            self.assertExactly(plus(pair(one), pair(other)), pair(one + other))
            self.assertExactly(less(pair(one), pair(other)), pair(one - other))

    def test_written_out(self):
        self.assertExactly(plus((1, 6), (1, 3)), (1, 2))
        self.assertExactly(plus((1, 2), (-1, 2)), (0, 1))
        self.assertExactly(less((1, 6), (2, 3)), (-1, 2))
        self.assertExactly(less((5, 7), (5, 7)), (0, 1))

    def test_below(self):
        for one, other in itertools.product(self.numbers(), repeat=2):
            self.assertSays(one < other, is_below, pair(one), pair(other))

    def test_below_by_the_last_of_forty_figures(self):
        self.assertSays(True, is_below, (GREAT - 1, GREAT), (GREAT, GREAT + 1))
        self.assertSays(False, is_below, (GREAT, GREAT + 1), (GREAT - 1, GREAT))
        self.assertSays(True, is_below, (-GREAT - 1, 1), (-GREAT, 1))
        self.assertSays(False, is_below, (GREAT, 1), (GREAT, 1))


class Asked(Case):
    def test_each_pair_of_small_numbers(self):
        for n, d in itertools.product(range(-12, 13), repeat=2):
            self.assertSays(d >= 1 and pair(Fraction(n, d)) == (n, d), is_fraction, (n, d))

    def test_forty_figures(self):
        self.assertSays(True, is_fraction, (GREAT, 10 ** 39))
        self.assertSays(True, is_fraction, (-GREAT, 2))
        self.assertSays(False, is_fraction, (GREAT * 3, 3 * 10 ** 38))
        self.assertSays(False, is_fraction, (GREAT, GREAT))
        self.assertSays(False, is_fraction, (0, GREAT))

    def test_nought_is_just_0_of_1(self):
        self.assertSays(True, is_fraction, (0, 1))
        for thing in ((0, 2), (0, -1), (0, 0), 0, (0,)):
            self.assertSays(False, is_fraction, thing)

    def test_other_kinds(self):
        for thing in ((True, 1), (1, True), (False, 1), (True, True), (True, 2), (3, True), (False, True),
                      [1, 2], [0, 1], ("1", "2"), ("1", 2), (1, "2"), "12", "1/2", (1,), (1, 2, 3), (1, 2, 1), (),
                      ((1, 2),), ((1, 2), (1, 2)), ([1], [2]), (None, 1), (1, None), ((1,), (2,)), ([], 1), 5, 1):
            self.assertSays(False, is_fraction, thing)

    def test_plain_things_of_all_sorts(self):
        for thing in ODD:
            self.assertSays(False, is_fraction, thing)


if __name__ == "__main__":
    unittest.main()
