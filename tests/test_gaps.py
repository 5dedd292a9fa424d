"""Points 55 to 58: full tables and full talks, their lines, the spread of their ends, and times that keep them."""

import copy
import itertools
import random
import unittest
from fractions import Fraction

from whens.checker import lets_no, rows_of
from whens.gaps import full_talk, is_full, lines, spread, times
from whens.tellings import is_telling

from layouts import ODD, TURNED, WORDS, Case
from oracle import (
    fitting, fraction_of, is_row_so, refusal, some_gap_saying, some_talk, some_telling, some_things, table_laid,
)
from rings import all_sums, ends_of, lines_laid, swift_sums

P, S = "point", "stretch"
THINGS = (("a", P), ("s", S), ("t", S))
TABLE = (("a", "s", ("within",)), ("a", "t", ("ahead",)), ("s", "t", ("overlaps",)))


def rows_wanted(full, sums):
    """The rows of a spread with these sums."""
    rows = []
    for x, y in itertools.permutations(sorted(ends_of(full[0])), 2):
        bound = None
        if (x, y) in sums:
            number, strict = sums[x, y]
            bound = ((number.numerator, number.denominator), strict == 0)
        rows.append((x, y, bound))
    return tuple(rows)


def some_full(dice, many, gaps, true=0.8):
    """A full talk of words that some telling has, or of any; its gap sayings are often ones that this telling keeps."""
    things = some_things(dice, many)
    telling = some_telling(dice, things)
    table = table_laid(things, telling)
    if dice.random() > true:
        table = tuple((a, b, (dice.choice(WORDS[dict(things)[a], dict(things)[b]]),)) for a, b, words in table)
    kept = dice.random() < 0.6
    sayings = []
    while len(sayings) < gaps and len(ends_of(things)) > 1:
        saying = some_gap_saying(dice, things)
        if not kept or is_row_so(things, telling, saying[1:]):
            sayings.append(saying)
    return full_talk((things, tuple(sayings)), table)


class Full(Case):
    def test_full_tables(self):
        self.assertSays(True, is_full, THINGS, TABLE)
        self.assertSays(True, is_full, THINGS[:1], ())
        dice = random.Random(55)
        for at in range(60):
            things = some_things(dice, dice.randrange(1, 7))
            self.assertSays(True, is_full, things, table_laid(things, some_telling(dice, things)))

    def test_words_that_no_telling_has_together(self):
        points = (("a", P), ("b", P), ("c", P))
        self.assertSays(True, is_full, points, (("a", "b", ("ahead",)), ("a", "c", ("behind",)), ("b", "c", ("ahead",))))

    def test_none(self):
        first = TABLE[0]
        for bad in (("a", "s", ()), ("a", "s", ("ahead", "within")), ("a", "s", ["within"]), ["a", "s", ("within",)],
                    ("a", "s", "within"), ("s", "a", ("holds",)), ("a", "t", ("within",)), ("a", "s", ("meets",)),
                    ("a", "s"), ("a", "s", ("within",), ()), ("a", "x", ("within",)), (True, "s", ("within",)),
                    ("a", "s", (True,)), ("a", "s", (None,)), ("a", "s", (["within"],)), ("a", "s", (("within",),)),
                    None, (), "a", 0, True):
            self.assertSays(False, is_full, THINGS, (bad,) + TABLE[1:])
        self.assertSays(False, is_full, THINGS, TABLE[:2])
        self.assertSays(False, is_full, THINGS, TABLE[1:])
        self.assertSays(False, is_full, THINGS, TABLE + TABLE[2:])
        self.assertSays(False, is_full, THINGS, (first, first) + TABLE[2:])
        self.assertSays(False, is_full, THINGS, TABLE[1:2] + TABLE[:1] + TABLE[2:])
        self.assertSays(False, is_full, THINGS, list(TABLE))
        self.assertSays(False, is_full, THINGS, ())
        self.assertSays(False, is_full, THINGS[:1], TABLE)
        self.assertSays(False, is_full, THINGS[:2], TABLE)
        self.assertSays(False, is_full, THINGS[:1], [])

    def test_odd_things(self):
        for thing in ODD:
            self.assertSays(False, is_full, THINGS, thing)
            self.assertSays(False, is_full, THINGS, (thing,) + TABLE[1:])
            self.assertSays(False, is_full, THINGS, TABLE[:2] + (("s", "t", thing),))
            self.assertSays(False, is_full, THINGS, TABLE[:2] + (("s", thing, ("overlaps",)),))
            self.assertSays(False, is_full, THINGS, TABLE[:2] + (("s", "t", (thing,)),) if thing != "ahead" else ())

    def test_full_talks(self):
        gaps = (("gap", ("a", 0), ("s", 1), (1, 2), True), ("gap", ("t", 1), ("a", 0), (-3, 1), False))
        mays = (("may", "a", "s", ("begins",)), ("may", "t", "s", ("lapped", "met")))
        wanted = (THINGS, tuple(("may",) + row for row in TABLE) + gaps)
        for sayings in (gaps, gaps[:1] + mays + gaps[1:], mays[:1] + gaps[:1] + mays[1:] + gaps[1:]):
            talk = (THINGS, sayings)
            before = copy.deepcopy(talk)
            self.assertExactly(full_talk(talk, TABLE), wanted)
            self.assertExactly(talk, before)
        self.assertExactly(full_talk((THINGS, mays), TABLE), (THINGS, wanted[1][:3]))
        self.assertExactly(full_talk(((("a", S),), ()), ()), ((("a", S),), ()))

    def test_thirty_nine_sayings(self):
        dice = random.Random(551)
        things = some_things(dice, 6)
        gaps = tuple(some_gap_saying(dice, things) for at in range(24))
        table = table_laid(things, some_telling(dice, things))
        self.assertExactly(full_talk((things, gaps), table), (things, tuple(("may",) + row for row in table) + gaps))


class Lines(Case):
    def test_each_word(self):
        for kinds in WORDS:
            things = (("a", kinds[0]), ("b", kinds[1]))
            for word in WORDS[kinds]:
                full = full_talk((things, ()), (("a", "b", (word,)),))
                self.assertExactly(lines(full), tuple(sorted(lines_laid(full))))

    def test_written_out(self):
        full = full_talk((THINGS[:2], (("gap", ("s", 1), ("a", 0), (1, 2), False),)), (("a", "s", ("begins",)),))
        self.assertExactly(lines(full), (
            (("a", 0), ("s", 0), (0, 1), False), (("a", 0), ("s", 1), (0, 1), True),
            (("s", 0), ("a", 0), (0, 1), False), (("s", 0), ("s", 1), (0, 1), True),
            (("s", 1), ("a", 0), (1, 2), False)))
        self.assertExactly(lines(((("a", P),), ())), ())
        self.assertExactly(lines(((("a", S),), ())), ((("a", 0), ("a", 1), (0, 1), True),))

    def test_each_once(self):
        gap = ("gap", ("s", 0), ("s", 1), (0, 1), True)
        other = ("gap", ("a", 0), ("s", 0), (0, 1), False)
        full = full_talk((THINGS[:2], (gap, other, gap, other)), (("a", "s", ("begins",)),))
        self.assertExactly(lines(full), lines(full_talk((THINGS[:2], ()), (("a", "s", ("begins",)),))))

    def test_many(self):
        dice = random.Random(56)
        for at in range(150):
            full = some_full(dice, dice.randrange(1, 7), dice.randrange(12), 0.5)
            self.assertExactly(lines(full), tuple(sorted(lines_laid(full))))

    def test_kept_just_where_the_talk_is(self):
        dice = random.Random(561)
        for at in range(100):
            full = some_full(dice, dice.randrange(2, 4), dice.randrange(3))
            for part in range(10):
                telling = some_telling(dice, full[0])
                keeps = all(is_row_so(full[0], telling, saying[1:]) for saying in full[1])
                self.assertEqual(all(is_row_so(full[0], telling, line) for line in lines(full)), keeps)


class Spread(Case):
    def look(self, full, sums):
        """Looks at the spread and the times by the test's own sums; the word."""
        word, found = spread(full)
        telling = times(full)
        if sums == "ring":
            self.assertEqual(word, "ring", full)
            self.assertIsNone(telling)
            self.is_ring(full, found)
        else:
            self.assertExactly((word, found), ("spread", rows_wanted(full, sums)))
            self.assertIs(is_telling(full[0], telling), True)
            self.assertTrue(all(is_row_so(full[0], telling, saying[1:]) for saying in full[1]))
        return word

    def is_ring(self, full, paper):
        self.assertIs(lets_no(full, paper), True)
        self.assertIsNone(refusal(full, paper))
        self.assertLessEqual({step[0] for step in paper}, {"told", "long", "ends", "add"})
        self.assertEqual(len(rows_of(full, paper)), len(paper))

    def test_one_thing(self):
        self.assertExactly(spread(((("a", P),), ())), ("spread", ()))
        self.assertExactly(spread(((("a", S),), ())), ("spread", (
            (("a", 0), ("a", 1), ((0, 1), True)), (("a", 1), ("a", 0), None))))
        gaps = (("gap", ("a", 1), ("a", 0), (5, 2), False), ("gap", ("a", 0), ("a", 1), (-1, 3), False))
        self.assertExactly(spread(((("a", S),), gaps)), ("spread", (
            (("a", 0), ("a", 1), ((-1, 3), False)), (("a", 1), ("a", 0), ((5, 2), False)))))
        for number, strict in (((0, 1), False), ((0, 1), True), ((-1, 5), False), ((1, 3), True), ((1, 4), False)):
            full = ((("a", S),), (("gap", ("a", 0), ("a", 1), (-1, 3), False), ("gap", ("a", 1), ("a", 0), number, strict)))
            self.assertEqual(self.look(full, all_sums(full)), "ring")

    def test_a_point_and_a_stretch(self):
        gap = ("gap", ("s", 1), ("a", 0), (1, 2), False)
        full = full_talk((THINGS[:2], (gap,)), (("a", "s", ("begins",)),))
        self.assertExactly(spread(full), ("spread", (
            (("a", 0), ("s", 0), ((0, 1), False)), (("a", 0), ("s", 1), ((0, 1), True)),
            (("s", 0), ("a", 0), ((0, 1), False)), (("s", 0), ("s", 1), ((0, 1), True)),
            (("s", 1), ("a", 0), ((1, 2), False)), (("s", 1), ("s", 0), ((1, 2), False)))))

    def test_strict_is_tighter(self):
        points = (("a", P), ("b", P), ("c", P))
        table = (("a", "b", ("behind",)), ("a", "c", ("behind",)), ("b", "c", ("behind",)))
        x, y, z = ("a", 0), ("b", 0), ("c", 0)
        for first, second in ((True, False), (False, True), (False, False)):
            gaps = (("gap", x, y, (3, 1), first), ("gap", x, y, (3, 1), second), ("gap", y, z, (1, 2), False))
            full = full_talk((points, gaps), table)
            rows = {row[:2]: row[2] for row in spread(full)[1]}
            self.assertExactly(rows[x, y], ((3, 1), first or second))
            self.assertExactly(rows[x, z], ((7, 2), first or second))
            self.assertExactly(rows[y, z], ((1, 2), False))
            self.assertExactly(rows[z, x], ((0, 1), True))

    def test_words_that_no_telling_has(self):
        points = (("a", P), ("b", P), ("c", P))
        for words in itertools.product(WORDS[P, P], repeat=3):
            table = tuple((a, b, (word,)) for (a, b), word in zip((("a", "b"), ("a", "c"), ("b", "c")), words))
            full = full_talk((points, ()), table)
            can = [telling for telling in fitting((points, ())) if table_laid(points, telling) == table]
            self.assertEqual(self.look(full, all_sums(full)), "spread" if can else "ring")

    def test_each_word_with_gaps_at_0(self):
        for kinds in WORDS:
            things = (("a", kinds[0]), ("b", kinds[1]))
            for word in WORDS[kinds]:
                for x, y in itertools.permutations(ends_of(things), 2):
                    for number, strict in (((0, 1), True), ((0, 1), False), ((-1, 7), False), ((1, 7), True)):
                        full = full_talk((things, (("gap", x, y, number, strict),)), (("a", "b", (word,)),))
                        self.look(full, all_sums(full))

    def test_sums_gone_through(self):
        dice = random.Random(57)
        told = {"spread": 0, "ring": 0}
        for at in range(250):
            full = some_full(dice, dice.choice((1, 2, 3)), dice.randrange(8))
            told[self.look(full, all_sums(full))] += 1
        self.assertGreater(min(told.values()), 60)

    def test_many_ends(self):
        dice = random.Random(571)
        told = {"spread": 0, "ring": 0}
        for at in range(60):
            full = some_full(dice, dice.choice((4, 5, 6)), dice.randrange(25), 0.9)
            told[self.look(full, swift_sums(full))] += 1
        self.assertGreater(min(told.values()), 15)

    def test_rings_of_0_strictly_and_just_not(self):
        points = (("a", P), ("b", P), ("c", P))
        table = (("a", "b", ("behind",)), ("a", "c", ("behind",)), ("b", "c", ("behind",)))
        a, b, c = ("a", 0), ("b", 0), ("c", 0)
        for strict in itertools.product((True, False), repeat=3):
            gaps = (("gap", a, b, (1, 3), strict[0]), ("gap", b, c, (1, 7), strict[1]),
                    ("gap", c, a, (-10, 21), strict[2]))
            full = full_talk((points, gaps), table)
            self.assertEqual(self.look(full, all_sums(full)), "ring" if any(strict) else "spread")

    def test_far_more_figures_than_six(self):
        dice = random.Random(572)
        for at in range(8):
            things = tuple((name, S) for name in "abcdef")
            gaps = []
            for one, other in zip("abcde", "bcdef"):
                top, bottom = dice.randrange(100000, 999999), dice.randrange(900000, 999999)
                number = Fraction(top, bottom)
                gaps.append(("gap", (other, 0), (one, 1), (number.numerator, number.denominator), dice.random() < 0.5))
            table = tuple((a, b, ("ahead",)) for a, b in itertools.combinations("abcdef", 2))
            for name in "abcdef":
                gaps.append(("gap", (name, 1), (name, 0), (1, dice.randrange(900000, 999999)), False))
            full = full_talk((things, tuple(gaps)), table)
            self.assertEqual(self.look(full, swift_sums(full)), "spread")
            self.assertGreater(max(row[2][0][1] for row in spread(full)[1] if row[2]), 10 ** 30)
            late = Fraction(0)
            for gap in gaps:
                late += fraction_of(gap[3])
            back = ("gap", ("a", 0), ("f", 1), (-late.__ceil__(), 1), False)
            self.assertEqual(self.look(full_talk((things, tuple(gaps) + (back,)), table),
                                       swift_sums(full_talk((things, tuple(gaps) + (back,)), table))), "ring")

    def test_any_bound_can_be_come_up_to(self):
        dice = random.Random(58)
        seen = 0
        while seen < 60:
            full = some_full(dice, 2, dice.randrange(1, 5))
            word, rows = spread(full)
            if word == "ring":
                continue
            for x, y, bound in rows:
                if bound is not None and not bound[1]:
                    seen += 1
                    number = bound[0]
                    more = (full[0], full[1] + (("gap", y, x, (-number[0], number[1]), False),))
                    self.assertEqual(spread(more)[0], "spread")
                    self.assertIsNotNone(times(more))

    def test_nothing_handed_in_is_changed(self):
        dice = random.Random(573)
        for at in range(20):
            full = some_full(dice, 3, 4)
            before = copy.deepcopy(full)
            first = (spread(full)[0], times(full) is None)
            lines(full)
            self.assertExactly(full, before)
            self.assertEqual((spread(full)[0], times(full) is None), first)


class Talks(Case):
    def test_of_talks_whose_mays_are_kept(self):
        # A telling that keeps a full talk of a table within what is said keeps the talk, too.
        dice = random.Random(574)
        seen = 0
        while seen < 40:
            things = some_things(dice, dice.choice((2, 3)))
            talk = some_talk(dice, things, dice.randrange(1, 4), dice.randrange(3))
            for telling in itertools.islice(fitting(talk), 5):
                found = times(full_talk(talk, table_laid(things, telling)))
                if found is not None:
                    seen += 1
                    self.assertTrue(all(is_row_so(things, found, saying[1:]) for saying in talk[1]))

    def test_turned_names_in_a_table_are_none(self):
        turned = tuple((b, a, (TURNED[words[0]],)) for a, b, words in TABLE)
        self.assertSays(False, is_full, THINGS, turned)


if __name__ == "__main__":
    unittest.main()
