"""Points 40 to 43: signs, plain mays, the plain may around a may, plain parts."""

import itertools
import random
import unittest

from whens.behind import behind_mays
from whens.plain import is_plain, plain_around, plain_parts, signs_in
from whens.words import turned_may

from layouts import ALL_KINDS, ALL_THREE_KINDS, ORDER, TWO_STRETCHES, WORDS, Case, end_numbers, some_mays
from oracle import around_laid, in_order, ways_laid


def all_mays(kinds):
    words = WORDS[kinds]
    for many in range(len(words) + 1):
        yield from itertools.combinations(words, many)


def looked_at(kinds, dice, many):
    """All mays of kinds with points, many of two stretches."""
    return some_mays(kinds, dice, many) if kinds == TWO_STRETCHES else list(all_mays(kinds))


ALL_AROUND = {}


def plain_ones(kinds):
    """All plain mays, by the test's own look."""
    if kinds not in ALL_AROUND:
        ALL_AROUND[kinds] = sorted({around_laid(kinds, may) for many in range(4)
                                    for may in itertools.combinations(WORDS[kinds], many)})
    return ALL_AROUND[kinds]


class Signs(Case):
    def test_each_two_ends(self):
        dice = random.Random(40)
        for kinds in ALL_KINDS:
            for may in looked_at(kinds, dice, 200):
                for x, y in itertools.product(end_numbers(kinds[0]), end_numbers(kinds[1])):
                    wanted = tuple(sorted({ways_laid(kinds, word)[x, y] for word in may}))
                    self.assertExactly(signs_in(kinds, may, x, y), wanted)

    def test_written_out(self):
        two = ("stretch", "stretch")
        self.assertExactly(signs_in(two, (), 0, 1), ())
        self.assertExactly(signs_in(two, ORDER, 0, 0), (-1, 0, 1))
        self.assertExactly(signs_in(two, ("ahead", "behind"), 1, 0), (-1, 1))
        self.assertExactly(signs_in(two, ("meets", "met"), 1, 0), (0, 1))
        self.assertExactly(signs_in(two, ("begins", "same", "begun"), 0, 0), (0,))
        self.assertExactly(signs_in(("point", "stretch"), ("begins", "within"), 0, 0), (0, 1))
        self.assertExactly(signs_in(("stretch", "point"), ("ended", "holds"), 1, 0), (0, 1))
        self.assertExactly(signs_in(("point", "point"), ("behind",), 0, 0), (1,))


class Plain(Case):
    def test_all_mays_of_kinds_with_points(self):
        for kinds in ALL_KINDS[:3]:
            for may in all_mays(kinds):
                self.assertSays(may == around_laid(kinds, may), is_plain, kinds, may)

    def test_mays_of_two_stretches(self):
        dice = random.Random(41)
        for may in some_mays(TWO_STRETCHES, dice, 600) + plain_ones(TWO_STRETCHES):
            self.assertSays(may == around_laid(TWO_STRETCHES, may), is_plain, TWO_STRETCHES, may)
            for word in ORDER:
                other = in_order(set(may) ^ {word})
                self.assertSays(other == around_laid(TWO_STRETCHES, other), is_plain, TWO_STRETCHES, other)

    def test_none_one_and_all_words(self):
        for kinds in ALL_KINDS:
            self.assertSays(True, is_plain, kinds, ())
            self.assertSays(True, is_plain, kinds, WORDS[kinds])
            for word in WORDS[kinds]:
                self.assertSays(True, is_plain, kinds, (word,))

    def test_unlike_is_not_plain(self):
        self.assertSays(False, is_plain, ("point", "point"), ("ahead", "behind"))
        self.assertSays(True, is_plain, ("point", "point"), ("same", "behind"))
        self.assertSays(False, is_plain, ("point", "stretch"), ("ahead", "within"))
        self.assertSays(True, is_plain, ("point", "stretch"), ("ahead", "begins", "within"))
        self.assertSays(False, is_plain, TWO_STRETCHES, ("ahead", "overlaps"))
        self.assertSays(False, is_plain, TWO_STRETCHES, ("begins", "begun"))
        self.assertSays(True, is_plain, TWO_STRETCHES, ("begins", "same", "begun"))

    def test_how_many_there_are(self):
        for kinds, many in zip(ALL_KINDS, (7, 16, 16, 83)):
            self.assertEqual(len(plain_ones(kinds)), many)


class Around(Case):
    def test_the_least_plain_one(self):
        dice = random.Random(42)
        for kinds in ALL_KINDS:
            for may in looked_at(kinds, dice, 250):
                found = plain_around(kinds, may)
                self.assertExactly(found, around_laid(kinds, may))
                self.assertIs(is_plain(kinds, found), True)
                self.assertLessEqual(set(may), set(found))
                for wide in plain_ones(kinds):
                    if set(may) <= set(wide):
                        self.assertLessEqual(set(found), set(wide))

    def test_of_none_none(self):
        for kinds in ALL_KINDS:
            self.assertExactly(plain_around(kinds, ()), ())

    def test_written_out(self):
        self.assertExactly(plain_around(TWO_STRETCHES, ("ahead", "overlaps")), ("ahead", "meets", "overlaps"))
        self.assertExactly(plain_around(TWO_STRETCHES, ("begins", "ended")),
                           ("overlaps", "begins", "same", "ended"))
        self.assertExactly(plain_around(TWO_STRETCHES, ("ahead", "behind")), ORDER)
        self.assertExactly(plain_around(("stretch", "point"), ("ahead", "begun")), ("ahead", "ended", "holds", "begun"))


class Parts(Case):
    def look(self, kinds, may):
        parts = plain_parts(kinds, may)
        self.assertIsInstance(parts, tuple)
        for part in parts:
            self.assertExactly(part, in_order(part))
            self.assertNotEqual(part, ())
            self.assertEqual(part, around_laid(kinds, part))
        self.assertEqual(in_order({word for part in parts for word in part}), may)

    def test_kinds_with_points(self):
        for kinds in ALL_KINDS[:3]:
            for may in all_mays(kinds):
                self.look(kinds, may)

    def test_two_stretches(self):
        dice = random.Random(421)
        for may in some_mays(TWO_STRETCHES, dice, 500) + plain_ones(TWO_STRETCHES):
            self.look(TWO_STRETCHES, may)

    def test_of_none_none(self):
        for kinds in ALL_KINDS:
            self.assertExactly(plain_parts(kinds, ()), ())


class Kept(Case):
    def test_turned(self):
        for kinds in ALL_KINDS:
            for may in plain_ones(kinds):
                self.assertSays(True, is_plain, kinds[::-1], turned_may(may))

    def test_both(self):
        for kinds in ALL_KINDS:
            for one, other in itertools.combinations(plain_ones(kinds), 2):
                self.assertSays(True, is_plain, kinds, in_order(set(one) & set(other)))

    def test_behind(self):
        dice = random.Random(43)
        for kinds in ALL_THREE_KINDS:
            ones, others = plain_ones(kinds[:2]), plain_ones(kinds[1:])
            every = list(itertools.product(ones, others))
            for one, other in every if len(every) < 600 else dice.sample(every, 600):
                self.assertSays(True, is_plain, (kinds[0], kinds[2]), behind_mays(kinds, one, other))


if __name__ == "__main__":
    unittest.main()
