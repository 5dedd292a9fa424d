"""Points 66 and 68: stands, limits and drifts, and the checker of how far apart two ends can lie."""

import copy
import itertools
import random
import unittest
from fractions import Fraction

from whens.errors import NoPaper, NoSpan
from whens.judging import judged
from whens.spanchecker import is_drift, is_limit, is_stands, lets_span

from hard_talks import hard_talks
from layouts import ODD, Case
from oracle import is_row_so, refusal, some_gap_saying, some_telling, some_things
from sought_talks import ends_in

P, S = "point", "stretch"
THINGS = (("a", P), ("s", S))
A, B, E = ("a", 0), ("s", 0), ("s", 1)
# The point lies within the stretch, less than 3 behind its begin; the stretch is at most 5 long.
TALK = (THINGS, (("may", "a", "s", ("within",)), ("gap", A, B, (3, 1), True), ("gap", E, B, (5, 1), False)))
KEPT = ((1, 1), ((0, 1), (5, 1)))


def with_gap(talk, x, y, number, strict):
    return (talk[0], talk[1] + (("gap", x, y, number, strict),))


class Stands(Case):
    def test_stands(self):
        for thing in (((0, 1), ((0, 1), (1, 1))), ((0, 1), ((1, 1), (0, 1))), ((-7, 3), ((2, 5), (2, 5))),
                      ((10 ** 399, 1), ((1, 10 ** 399), (0, 1)))):
            self.assertSays(True, is_stands, THINGS, thing)
        self.assertSays(True, is_stands, THINGS[:1], ((0, 1),))

    def test_none(self):
        for thing in (((0, 1),), ((0, 1), (0, 1)), (((0, 1), (1, 1)), (0, 1)), ((0, 1), ((0, 1), (1, 1)), (0, 1)),
                      [(0, 1), ((0, 1), (1, 1))], ([0, 1], ((0, 1), (1, 1))), ((0, 1), [(0, 1), (1, 1)]),
                      ((0, 1), ((0, 1),)), ((0, 1), ((0, 1), (1, 1), (2, 1))), ((0, 2), ((0, 1), (1, 1))),
                      ((0, 1), ((0, 1), (2, 2))), ((False, 1), ((0, 1), (1, 1))), ((0, 1), ((0, 1), (1, True))),
                      ((0, 1), ((0, 1), (1, 0))), ((0, -1), ((0, 1), (1, 1))), ((0, 1), ([0, 1], (1, 1))),
                      ((0, 1), None), (None, ((0, 1), (1, 1))), ()):
            self.assertSays(False, is_stands, THINGS, thing)

    def test_odd_things(self):
        for thing in ODD:
            self.assertSays(False, is_stands, THINGS, thing)
            self.assertSays(False, is_stands, THINGS, (thing, ((0, 1), (1, 1))))
            self.assertSays(False, is_stands, THINGS, ((0, 1), thing))
            self.assertSays(False, is_stands, THINGS, ((0, 1), ((0, 1), thing)))


def laid(things, stands):
    """The number of each end."""
    found = {}
    for (name, kind), part in zip(things, stands):
        for number, time in enumerate((part,) if kind == P else part):
            found[name, number] = Fraction(*time)
    return found


def is_limit_laid(talk, telling, stands, drift):
    """Whether stands are a limit, or a drift, by the document's words."""
    told, there = laid(talk[0], telling), laid(talk[0], stands)
    for u, v in itertools.permutations(told, 2):
        if told[u] < told[v] and not there[u] <= there[v] or told[u] == told[v] and there[u] != there[v]:
            return False
    for saying in talk[1]:
        if saying[0] == "gap":
            most = Fraction(0) if drift else Fraction(*saying[3])
            if there[saying[1]] - there[saying[2]] > most:
                return False
    return True


class Limits(Case):
    def test_by_two_ends(self):
        talk = (THINGS, TALK[1][:1])
        for stands, truth in ((((1, 1), ((0, 1), (5, 1))), True), (((0, 1), ((0, 1), (0, 1))), True),
                              (((3, 1), ((3, 1), (4, 1))), True), (((3, 1), ((0, 1), (3, 1))), True),
                              (((0, 1), ((1, 1), (2, 1))), False), (((3, 1), ((1, 1), (2, 1))), False),
                              (((1, 1), ((1, 1), (0, 1))), False)):
            self.assertSays(truth, is_limit, talk, KEPT, stands)
            self.assertSays(truth, is_drift, talk, KEPT, stands)

    def test_alike_ends(self):
        points = (("a", P), ("b", P))
        for stands, truth in ((((1, 1), (1, 1)), True), (((1, 1), (2, 1)), False), (((2, 1), (1, 1)), False)):
            self.assertSays(truth, is_limit, (points, ()), ((0, 1), (0, 1)), stands)
            self.assertSays(truth, is_drift, (points, ()), ((0, 1), (0, 1)), stands)

    def test_by_a_gap(self):
        for stands, limit, drift in ((((3, 1), ((0, 1), (5, 1))), True, False), (((7, 2), ((0, 1), (5, 1))), False, False),
                                     (((3, 1), ((0, 1), (6, 1))), False, False), (((0, 1), ((0, 1), (0, 1))), True, True),
                                     (((9, 1), ((9, 1), (9, 1))), True, True), (((9, 1), ((9, 1), (10, 1))), True, False),
                                     (((1, 1), ((0, 1), (1, 1))), True, False)):
            self.assertSays(limit, is_limit, TALK, KEPT, stands)
            self.assertSays(drift, is_drift, TALK, KEPT, stands)

    def test_gaps_below_nought(self):
        talk = (THINGS, (("gap", B, E, (-2, 1), False),))
        for stands, limit, drift in ((((0, 1), ((0, 1), (2, 1))), True, True), (((0, 1), ((0, 1), (1, 1))), False, True),
                                     (((0, 1), ((0, 1), (0, 1))), False, True)):
            self.assertSays(limit, is_limit, talk, ((0, 1), ((0, 1), (3, 1))), stands)
            self.assertSays(drift, is_drift, talk, ((0, 1), ((0, 1), (3, 1))), stands)

    def test_many(self):
        dice = random.Random(66)
        told = {}
        for at in range(900):
            things = some_things(dice, dice.randrange(1, 4))
            telling, stands = some_telling(dice, things), some_telling(dice, things)
            if dice.random() < 0.5:
                stands = tuple(times if dice.random() < 0.6 else other for times, other in zip(telling, stands))
            if dice.random() < 0.5:
                stands = tuple((5, 1) if kind == P else ((5, 1), (dice.choice((5, 6)), 1)) for name, kind in things)
            sayings = [] if len(ends_in(things)) == 1 else [some_gap_saying(dice, things) for part in range(3)]
            talk = (things, tuple(saying for saying in sayings if is_row_so(things, telling, saying[1:])))
            for drift, function in ((False, is_limit), (True, is_drift)):
                truth = is_limit_laid(talk, telling, stands, drift)
                self.assertSays(truth, function, talk, telling, stands)
                told[drift, truth] = told.get((drift, truth), 0) + 1
        self.assertGreater(min(told.values()), 40)
        self.assertEqual(len(told), 4)


class Lets(Case):
    def refused(self, word, talk, x, y, answer, thing):
        before = copy.deepcopy((talk, answer, thing))
        with self.assertRaises(NoSpan) as caught:
            lets_span(talk, x, y, answer, thing)
        self.assertExactly(caught.exception.word, word)
        self.assertExactly((talk, answer, thing), before)

    def refused_paper(self, path, word, talk, x, y, answer, thing):
        with self.assertRaises(NoPaper) as caught:
            lets_span(talk, x, y, answer, thing)
        self.assertExactly((caught.exception.path, caught.exception.word), (path, word))

    def setUp(self):
        # The stretch's end is at most 5 behind its begin, just so here; the point is less than 3 behind the begin.
        self.most = ("at", (5, 1), False)
        self.most_shown = (KEPT, judged(with_gap(TALK, B, E, (-5, 1), True))[1])
        self.near = ("at", (3, 1), True)
        self.limit = ((3, 1), ((0, 1), (5, 1)))
        self.near_shown = (KEPT, self.limit, judged(with_gap(TALK, B, A, (-3, 1), False))[1])
        self.loose = (THINGS, TALK[1][:2])
        self.free_shown = (KEPT, ((0, 1), ((0, 1), (1, 1))))
        self.never = (THINGS, TALK[1] + (("gap", A, B, (0, 1), False),))
        self.none_shown = judged(self.never)[1]

    def test_let_by(self):
        self.assertSays(True, lets_span, TALK, E, B, self.most, self.most_shown)
        self.assertSays(True, lets_span, TALK, A, B, self.near, self.near_shown)
        self.assertSays(True, lets_span, self.loose, E, A, ("free",), self.free_shown)
        self.assertSays(True, lets_span, self.never, E, A, ("none",), self.none_shown)

    def test_answers(self):
        for answer in (None, (), "none", "free", ["none"], ["free"], ("none", None), ("free", 0), ("at",), ("at", (5, 1)),
                       ("at", (5, 1), 0), ("at", (5, 1), 1), ("at", (5, 1), None), ("at", (5, 1), False, None),
                       ["at", (5, 1), False], ("at", [5, 1], False), ("at", (10, 2), False), ("at", (5, True), False),
                       ("at", (True, 1), False), ("at", 5, False), ("at", None, True), ("At", (5, 1), False),
                       ("free", (5, 1), False), ("none", (5, 1), False), ("",), (("none",),), ("yes",), ("at", "at", "at"),
                       ("at", (5, 0), False), ("at", (5, -1), False), (None, (5, 1), False)):
            self.refused("answer", TALK, E, B, answer, self.most_shown)
            self.refused("answer", TALK, E, B, answer, None)
        for thing in ODD:
            self.refused("answer", TALK, E, B, thing, self.most_shown)
            self.refused("answer", TALK, E, B, (thing, (5, 1), False), self.most_shown)
            self.refused("answer", TALK, E, B, ("at", thing, False), self.most_shown)
            self.refused("answer", TALK, E, B, ("free", thing), self.most_shown)

    def test_shapes(self):
        paper = self.most_shown[1]
        for thing in ((KEPT,), (KEPT, paper, paper), [KEPT, paper], (paper, KEPT), (KEPT, self.limit, paper), (), None,
                      (list(KEPT), paper), (((1, 1), ((5, 1), (0, 1))), paper), (((1, 1),), paper),
                      (((True, 1), ((0, 1), (5, 1))), paper), (None, paper), (((1, 1), ((0, 1), (0, 1))), paper)):
            self.refused("shape", TALK, E, B, self.most, thing)
        near = self.near_shown[2]
        for thing in ((KEPT, self.limit), (KEPT, near), (KEPT, self.limit, near, near), [KEPT, self.limit, near],
                      (KEPT, list(self.limit), near), (KEPT, ((3, 1),), near), (KEPT, ((3, 1), (0, 1)), near),
                      (KEPT, ((3, 1), ((0, 1), (5, True))), near), (KEPT, None, near), (None, self.limit, near),
                      (((1, 1), ((5, 1), (0, 1))), self.limit, near), (self.limit[:1], self.limit, near), (KEPT, near, near)):
            self.refused("shape", TALK, A, B, self.near, thing)
        for thing in ((KEPT,), [KEPT, self.free_shown[1]], self.free_shown + (paper,), (KEPT, list(self.free_shown[1])),
                      (KEPT, (0, 1)), (KEPT, ((0, 1), ((0, 1), (1, True)))), (self.free_shown[0][:1], self.free_shown[1]),
                      (KEPT, ((0, 1), ((0, 1), (1, 1)), (0, 1))), (KEPT, None), (None, self.free_shown[1]), None, ()):
            self.refused("shape", self.loose, E, A, ("free",), thing)
        for thing in ODD:
            for answer, talk in ((self.most, TALK), (self.near, TALK), (("free",), self.loose)):
                self.refused("shape", talk, E, B, answer, thing)
                self.refused("shape", talk, E, B, answer, (thing, thing))
                self.refused("shape", talk, E, B, answer, (thing, thing, thing))
                self.refused("shape", talk, E, B, answer, (thing, self.limit, paper)[:3 if answer == self.near else 2])
            self.refused("shape", TALK, A, B, self.near, (KEPT, thing, near))
            self.refused("shape", self.loose, E, A, ("free",), (KEPT, thing))

    def test_of_none_no_shape_is_asked(self):
        for thing, path, word in ((None, (), "shape"), ([], (), "shape"), ((), (), "open"), (KEPT, (0,), "step"),
                                  (("told", 0), (0,), "step"), ((("told", 0),), (), "open"), ("none", (), "shape")):
            self.refused_paper(path, word, self.never, E, A, ("none",), thing)
        self.refused_paper((), "open", self.never, E, A, ("none",), self.none_shown[:-1])
        found = refusal(TALK, self.none_shown)
        self.refused_paper(found[0], found[1], TALK, E, A, ("none",), self.none_shown)

    def test_keeps(self):
        for telling in (((3, 1), ((0, 1), (5, 1))), ((0, 1), ((0, 1), (5, 1))), ((1, 1), ((0, 1), (6, 1))),
                        ((6, 1), ((0, 1), (5, 1)))):
            self.refused("keeps", TALK, E, B, self.most, (telling, self.most_shown[1]))
            self.refused("keeps", TALK, E, B, self.most, (telling, None))
            self.refused("keeps", TALK, A, B, self.near, (telling, self.limit, self.near_shown[2]))
            # Ahead of the limit's and the number's refusal.
            self.refused("keeps", TALK, A, B, self.near, (telling, ((9, 1), ((0, 1), (5, 1))), None))
        for telling in (((3, 1), ((0, 1), (5, 1))), ((0, 1), ((0, 1), (5, 1)))):
            self.refused("keeps", self.loose, E, A, ("free",), (telling, self.free_shown[1]))
            self.refused("keeps", self.loose, E, A, ("free",), (telling, ((1, 1), ((0, 1), (0, 1)))))

    def test_limits(self):
        for limit in (((3, 1), ((0, 1), (6, 1))), ((3, 1), ((0, 1), (2, 1))), ((-1, 1), ((0, 1), (5, 1))),
                      ((4, 1), ((0, 1), (5, 1)))):
            self.refused("limit", TALK, A, B, self.near, (KEPT, limit, self.near_shown[2]))
            self.refused("limit", TALK, A, B, ("at", (7, 1), True), (KEPT, limit, None))

    def test_drifts(self):
        for drift in (((1, 1), ((0, 1), (2, 1))), ((0, 1), ((1, 1), (2, 1))), ((0, 1), ((0, 1), (-1, 1)))):
            self.refused("drift", self.loose, E, A, ("free",), (KEPT, drift))
        # Ahead of the number's refusal.
        self.refused("drift", self.loose, A, E, ("free",), (KEPT, ((1, 1), ((0, 1), (2, 1)))))
        self.refused("drift", TALK, E, A, ("free",), self.free_shown)

    def test_numbers(self):
        for number in ((4, 1), (6, 1), (4999999, 1000000), (5000001, 1000000), (-5, 1), (0, 1)):
            paper = judged(with_gap(TALK, B, E, (-number[0], number[1]), True))[1]
            self.refused("number", TALK, E, B, ("at", number, False), (KEPT, paper))
            self.refused("number", TALK, E, B, ("at", number, False), (KEPT, None))
        for number in ((2, 1), (4, 1), (2999999, 1000000), (3000001, 1000000), (-3, 1)):
            self.refused("number", TALK, A, B, ("at", number, True), self.near_shown)
            self.refused("number", TALK, A, B, ("at", number, True), (KEPT, self.limit, None))
        # The telling's own number is not asked for where there is a limit.
        self.refused("number", TALK, A, B, ("at", (1, 1), True), self.near_shown)
        self.refused("number", TALK, B, A, self.near, self.near_shown)
        self.refused("number", TALK, B, E, self.most, self.most_shown)
        for x, y in ((A, E), (A, B), (B, A)):
            self.refused("number", self.loose, x, y, ("free",), self.free_shown)
        self.refused("number", self.loose, E, A, ("free",), (KEPT, ((1, 1), ((1, 1), (1, 1)))))

    def test_papers(self):
        self.refused_paper((), "shape", TALK, E, B, self.most, (KEPT, None))
        self.refused_paper((), "open", TALK, E, B, self.most, (KEPT, ()))
        self.refused_paper((), "shape", TALK, E, B, self.most, (KEPT, list(self.most_shown[1])))
        self.refused_paper((), "open", TALK, A, B, self.near, (KEPT, self.limit, self.near_shown[2][:-1]))
        self.refused_paper((0,), "step", TALK, A, B, self.near, (KEPT, self.limit, (("told", 4),)))
        self.refused_paper((), "open", TALK, A, B, self.near, (KEPT, self.limit, (("told", 3),)))

    def test_the_talk_of_the_paper(self):
        # One that needs the gap to be strict is not let by where it is not, and the other way about.
        told = (("told", 2), ("told", 3), ("add", 0, 1))
        self.assertSays(True, lets_span, TALK, E, B, self.most, (KEPT, told))
        near = (("told", 1), ("told", 3), ("add", 0, 1))
        self.assertSays(True, lets_span, TALK, A, B, self.near, (KEPT, self.limit, near))
        # Without strict in the talk's own gap, strict is wrong of the answer.
        even = (THINGS, TALK[1][:1] + (("gap", A, B, (3, 1), False),) + TALK[1][2:])
        self.refused_paper((), "open", even, A, B, self.near, (KEPT, self.limit, near))
        at = ((3, 1), ((0, 1), (5, 1)))
        self.assertSays(True, lets_span, even, A, B, ("at", (3, 1), False), (at, near))
        # Another talk's paper: that of the gap said the other way about, or of none said.
        self.refused_paper((), "open", TALK, E, B, self.most, (KEPT, (("told", 2), ("told", 2))))
        for other in hard_talks()[:2]:
            paper = judged(other)[1]
            found = refusal(with_gap(TALK, B, E, (-5, 1), True), paper)
            self.refused_paper(found[0], found[1], TALK, E, B, self.most, (KEPT, paper))

    def test_forty_sayings(self):
        talk = (THINGS, TALK[1] + (("gap", A, B, (4, 1), False),) * 37)
        for at, saying in ((39, False), (40, True)):
            paper = (("told", 1), ("told", at), ("add", 0, 1))
            if saying:
                self.assertSays(True, lets_span, talk, A, B, self.near, (KEPT, self.limit, paper))
            else:
                self.refused_paper((2,), "step", talk, A, B, self.near, (KEPT, self.limit, paper))
        self.refused_paper((1,), "step", talk, A, B, self.near, (KEPT, self.limit, (("told", 1), ("told", 41))))


if __name__ == "__main__":
    unittest.main()
