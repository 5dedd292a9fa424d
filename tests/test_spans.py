"""Points 65, 67, 69: how far one end can be behind another, told exactly, with what shows it."""

import copy
import itertools
import random
import unittest
from fractions import Fraction

from whens.errors import NoPaper, NoSpan
from whens.judging import judged
from whens.spanchecker import is_drift, is_limit, is_stands, lets_span
from whens.spans import farthest, span_shown
from whens.tellings import is_telling

from hard_talks import hard_talks
from layouts import Case
from oracle import fraction_of, is_row_so, refusal, some_ends
from rings import can_be_kept, span_laid
from sought_talks import ends_in, near_talk, packed_talk, packed_talks

P, S = "point", "stretch"
TWO = (("a", P), ("b", P))
A, B = ("a", 0), ("b", 0)


def cases_deep(paper):
    if paper[-1][0] != "cases":
        return 0
    return 1 + max(cases_deep(inner) for words, inner in paper[-1][2])


def with_gap(talk, x, y, number, strict):
    return (talk[0], talk[1] + (("gap", x, y, number, strict),))


def apart(things, stands, x, y):
    found = {}
    for (name, kind), part in zip(things, stands):
        for number, time in enumerate((part,) if kind == P else part):
            found[name, number] = Fraction(*time)
    return found[x] - found[y]


class Spans(Case):
    def is_kept(self, talk, telling):
        self.assertIs(is_telling(talk[0], telling), True)
        self.assertTrue(all(is_row_so(talk[0], telling, saying[1:]) for saying in talk[1]))

    def is_paper(self, talk, paper):
        self.assertIsNone(refusal(talk, paper))
        self.assertLessEqual(cases_deep(paper), 12)

    def look(self, talk, x, y, wanted):
        """Looks at the answer and at what shows it, by the document's words."""
        before = copy.deepcopy(talk)
        self.assertExactly(farthest(talk, x, y), wanted)
        found = span_shown(talk, x, y)
        self.assertIs(type(found), tuple)
        answer, shown = found
        self.assertExactly(answer, wanted)
        self.assertSays(True, lets_span, talk, x, y, answer, shown)
        self.assertExactly(talk, before)
        things = talk[0]
        if answer == ("none",):
            self.is_paper(talk, shown)
        elif answer == ("free",):
            telling, drift = shown
            self.is_kept(talk, telling)
            self.assertIs(is_stands(things, drift), True)
            self.assertSays(True, is_drift, talk, telling, drift)
            self.assertGreater(apart(things, drift, x, y), 0)
        else:
            word, number, strict = answer
            top, bottom = number
            self.is_kept(talk, shown[0])
            self.is_paper(with_gap(talk, y, x, (-top, bottom), not strict), shown[-1])
            self.assertEqual(apart(things, shown[-2], x, y), fraction_of(number))
            if strict:
                self.assertIs(is_stands(things, shown[1]), True)
                self.assertSays(True, is_limit, talk, shown[0], shown[1])
                self.assertLess(apart(things, shown[0], x, y), fraction_of(number))
            self.assertEqual(len(shown), 3 if strict else 2)

    def test_one_stretch(self):
        things = (("a", S),)
        x, y = ("a", 0), ("a", 1)
        self.look((things, ()), x, y, ("at", (0, 1), True))
        self.look((things, ()), y, x, ("free",))
        for number in ((7, 2), (1, 999999), (999999, 1)):
            for strict in (True, False):
                talk = (things, (("gap", y, x, number, strict),))
                self.look(talk, y, x, ("at", number, strict))
                self.look(talk, x, y, ("at", (0, 1), True))
        talk = (things, (("gap", x, y, (-1, 3), False), ("gap", y, x, (5, 3), True)))
        self.look(talk, x, y, ("at", (-1, 3), False))
        self.look(talk, y, x, ("at", (5, 3), True))
        never = (things, (("gap", y, x, (0, 1), False),))
        self.look(never, x, y, ("none",))
        self.look(never, y, x, ("none",))

    def test_nothing_said_of_ends(self):
        for kinds in itertools.product((P, S), repeat=3):
            things = tuple(zip("abc", kinds))
            for x, y in itertools.permutations(ends_in(things), 2):
                wanted = ("at", (0, 1), True) if x[0] == y[0] and x[1] == 0 else ("free",)
                self.look((things, ()), x, y, wanted)

    def test_words_of_two_points(self):
        for words, ahead, behind in (
                (("ahead",), ("at", (0, 1), True), ("free",)), (("same",), ("at", (0, 1), False),) + (("at", (0, 1), False),),
                (("ahead", "same"), ("at", (0, 1), False), ("free",)), (("ahead", "behind"), ("free",), ("free",)),
                (("behind",), ("free",), ("at", (0, 1), True))):
            talk = (TWO, (("may", "a", "b", words),))
            self.look(talk, A, B, ahead)
            self.look(talk, B, A, behind)

    def test_gaps_that_words_tighten(self):
        gap = ("gap", A, B, (2, 1), False)
        self.look((TWO, (gap,)), A, B, ("at", (2, 1), False))
        self.look((TWO, (gap, ("gap", A, B, (2, 1), True))), A, B, ("at", (2, 1), True))
        self.look((TWO, (gap, ("may", "a", "b", ("ahead", "same")))), A, B, ("at", (0, 1), False))
        self.look((TWO, (gap, ("may", "b", "a", ("behind",)))), A, B, ("at", (0, 1), True))
        self.look((TWO, (gap, ("may", "b", "a", ("ahead",)), ("gap", A, B, (0, 1), False))), A, B, ("none",))

    def test_the_farthest_of_several_choices(self):
        # As a lies ahead of b or behind c the third thing holds it otherwise; the farther one is told.
        things = (("a", P), ("b", P), ("c", P))
        c = ("c", 0)
        either = ("may", "a", "b", ("ahead", "behind"))
        held = (("gap", A, c, (7, 1), True), ("gap", c, B, (1, 2), False), ("gap", B, A, (3, 1), False))
        self.look((things, (either,) + held), A, B, ("at", (15, 2), True))
        self.look((things, (either,) + held), B, A, ("at", (3, 1), False))
        self.look((things, (("may", "b", "c", ("ahead", "behind")), ("gap", c, B, (0, 1), False)) + held[:1]), A, B,
                  ("at", (7, 1), True))

    def test_at_the_like_number_not_strict_goes_first(self):
        # Of two choices with one number the one that has it is told, whichever comes first.
        things = (("a", S), ("b", P))
        for words in (("begins", "within"), ("within", "ends"), ("begins", "ends"), ("begins", "within", "ends")):
            talk = (things, (("may", "b", "a", words),))
            self.look(talk, ("b", 0), ("a", 1), ("at", (0, 1), "ends" not in words))
            self.look(talk, ("a", 0), ("b", 0), ("at", (0, 1), "begins" not in words))

    def test_against_all_choices(self):
        dice = random.Random(65)
        told = {}
        for at in range(260):
            many = dice.choice((1, 2, 3, 3, 4))
            talk = near_talk(dice, many, 2 * many, dice.randrange(9), dice.choice((3, 6, 13)), 0.8)
            talk = (talk[0], talk[1][:23])
            if many > 3 and len(talk[1]) < 6:
                continue
            x, y = some_ends(dice, talk[0])
            wanted = span_laid(talk, x, y)
            self.look(talk, x, y, wanted)
            key = (wanted[0],) + wanted[2:]
            told[key] = told.get(key, 0) + 1
        self.assertEqual(len(told), 4)
        self.assertGreater(min(told.values()), 15)

    def test_five_things(self):
        lengths = (3, Fraction(5, 2), Fraction(1, 3), 4)
        talk = packed_talk(lengths, 12)
        # 12 less all lengths is 13/6: so far the others leave room.
        self.look(talk, ("a", 1), ("a", 0), ("at", (31, 6), False))
        self.look(talk, ("w", 0), ("w", 1), ("at", (-59, 6), False))
        self.look(talk, ("b", 0), ("a", 1), ("at", (13, 2), False))
        apart_talk = packed_talk(lengths, 12, ("ahead", "behind"))
        self.look(apart_talk, ("a", 1), ("a", 0), ("at", (31, 6), True))
        self.look(apart_talk, ("b", 0), ("a", 1), ("at", (13, 2), False))
        self.look((talk[0], talk[1][:-1]), ("w", 1), ("a", 1), ("free",))
        self.look((talk[0], talk[1][:-1]), ("a", 0), ("w", 0), ("free",))
        for shut, can in packed_talks():
            if not can:
                self.look(shut, ("a", 0), ("w", 0), ("none",))
        for shut in hard_talks()[:3]:
            self.look(shut, ("a", 0), ("b", 0), ("none",))

    def test_five_things_against_all_choices(self):
        dice = random.Random(651)
        for at in range(40):
            talk = near_talk(dice, 5, 13, 10, 4, 0.9)
            x, y = some_ends(dice, talk[0])
            if len(talk[1]) > 11:
                self.look(talk, x, y, span_laid(talk, x, y))

    def test_numbers_of_many_figures(self):
        # Bottoms that share nothing: the sum's has all their figures.
        things = tuple((name, S) for name in "abcde")
        bottoms = (999983, 999979, 999961, 999959, 999953, 999931, 999917, 999907, 999883)
        gaps, ends = [], ends_in(things)
        whole = Fraction(0)
        for x, y, bottom in zip(ends[1:], ends, bottoms):
            whole += Fraction(bottom - 1, bottom)
            gaps.append(("gap", x, y, (bottom - 1, bottom), False))
        talk = (things, tuple(gaps))
        number = (whole.numerator, whole.denominator)
        self.assertGreater(number[1], 10 ** 50)
        self.look(talk, ends[9], ends[0], ("at", number, False))
        strict = (things, tuple(gaps[:4]) + (gaps[4][:4] + (True,),) + tuple(gaps[5:]))
        self.look(strict, ends[9], ends[0], ("at", number, True))

    def test_names_apart_by_next_to_nothing(self):
        # What lies between must be passed by a telling that is very near to its limit.
        small = (1, 999999)
        things = (("a", P), ("b", P), ("c", P), ("d", P))
        c, d = ("c", 0), ("d", 0)
        talk = (things, (("gap", A, B, (999999, 1), True), ("gap", A, c, small, True), ("gap", B, d, (0, 1), False),
                         ("gap", d, B, small, True)))
        for x, y in itertools.permutations((A, B, c, d), 2):
            self.look(talk, x, y, span_laid(talk, x, y))

    def test_no_other_number_is_let_by(self):
        dice = random.Random(652)
        seen = 0
        while seen < 40:
            talk = near_talk(dice, dice.choice((2, 3)), 3, 6, 5, 1)
            x, y = some_ends(dice, talk[0])
            answer, shown = span_shown(talk, x, y)
            if answer[0] != "at":
                continue
            seen += 1
            word, (top, bottom), strict = answer
            near = Fraction(top, bottom) + dice.choice((-1, 1)) * Fraction(1, 10 ** 6)
            for other in (("at", (near.numerator, near.denominator), strict), ("at", (top, bottom), not strict),
                          ("free",), ("none",), ("at", (top + bottom, bottom), strict)):
                with self.assertRaises((NoSpan, NoPaper)):
                    lets_span(talk, x, y, other, shown)
            # Beyond the number no telling keeps the talk; at it, or short of it by next to nothing, one does.
            beyond = with_gap(talk, y, x, (-top, bottom), not strict)
            self.assertFalse(can_be_kept(beyond))
            self.assertEqual(judged(beyond)[0], "no")
            short = Fraction(top, bottom) - (Fraction(1, 10 ** 12) if strict else 0)
            self.assertTrue(can_be_kept(with_gap(talk, y, x, (-short.numerator, short.denominator), False)))

    def test_free_passes_each_number(self):
        dice = random.Random(653)
        seen = 0
        while seen < 30:
            talk = near_talk(dice, dice.choice((2, 3)), 2, 2, 5, 1)
            x, y = some_ends(dice, talk[0])
            answer, shown = span_shown(talk, x, y)
            if answer == ("free",):
                seen += 1
                for far in (0, 10, 999999):
                    self.assertEqual(judged(with_gap(talk, y, x, (-far, 1), True))[0], "yes")

    def test_twenty_three_sayings(self):
        dice = random.Random(654)
        for at in range(10):
            talk = near_talk(dice, 3, 0, 60, kept=1)
            talk = (talk[0], talk[1][:23])
            self.assertEqual(len(talk[1]), 23)
            x, y = some_ends(dice, talk[0])
            self.look(talk, x, y, span_laid(talk, x, y))


if __name__ == "__main__":
    unittest.main()
