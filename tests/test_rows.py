"""Points 25 to 28: rows, the steps that give them, and that tellings have what steps give."""

import copy
import random
import unittest
from fractions import Fraction

from whens.rows import has_row, is_fault, row_of

from layouts import ALL_KINDS, ODD, ORDER, TURNED, WORDS, Case, pair
from oracle import is_fault_row, is_row_so, row_given, some_number, some_saying, some_telling, some_things

P, S = "point", "stretch"
THINGS = (("a", P), ("b", P), ("s", S), ("t", S))
SAYINGS = (
    ("may", "a", "s", ("ahead", "within")),
    ("gap", ("s", 1), ("a", 0), (-1, 2), True),
    ("may", "t", "b", ("ended", "behind")),
)
TALK = (THINGS, SAYINGS)
NOUGHT = (0, 1)
GREAT = 10 ** 400 + 1

# By number: 0 to 5 may rows, 6 to 11 gap rows.
ROWS = [
    ("a", "s", ("ahead", "begins")),
    ("s", "t", ("meets", "overlaps")),
    ("s", "a", ("ended", "behind")),
    ("a", "s", ("begins", "within", "behind")),
    ("a", "s", ()),
    ("t", "s", ("met", "behind")),
    (("a", 0), ("s", 0), (-1, 3), False),
    (("s", 0), ("b", 0), (1, 2), True),
    (("s", 1), ("a", 0), (0, 1), False),
    (("s", 0), ("a", 0), (0, 1), True),
    (("b", 0), ("b", 0), (GREAT, 3), False),
    (("a", 0), ("s", 0), (1, 9), True),
]
GOOD_STEPS = (
    ("told", 0), ("told", 1), ("any", "a", "s"), ("long", "t"), ("turned", 0), ("behind", 0, 1), ("both", 0, 3),
    ("ends", 0, ("a", 0), ("s", 0)), ("strike", 0, 6), ("add", 6, 7),
)


class Faults(Case):
    def test_may_rows(self):
        self.assertSays(True, is_fault, ("a", "s", ()))
        self.assertSays(False, is_fault, ("a", "s", ("ahead",)))
        self.assertSays(False, is_fault, ("s", "t", ORDER))

    def test_gap_rows(self):
        for x, y in ((("a", 0), ("a", 0)), (("s", 1), ("s", 1)), (("s", 0), ("s", 1)), (("a", 0), ("b", 0)),
                     (("s", 0), ("t", 0))):
            for number in ((-1, 1), (-1, GREAT), (-GREAT, 2), (0, 1), (1, GREAT), (1, 1)):
                for strict in (True, False):
                    wanted = x == y and (number[0] < 0 or number[0] == 0 and strict)
                    self.assertSays(wanted, is_fault, (x, y, number, strict))


class HasRow(Case):
    def test_written_out(self):
        telling = ((1, 2), (3, 1), ((0, 1), (2, 1)), ((2, 1), (3, 1)))
        for row, wanted in (
                (("a", "s", ("within",)), True), (("s", "a", ("holds", "behind")), True), (("a", "s", ()), False),
                (("s", "t", ("ahead", "overlaps")), False), (("t", "s", ("met",)), True),
                ((("a", 0), ("a", 0), (0, 1), False), True), ((("a", 0), ("a", 0), (0, 1), True), False),
                ((("a", 0), ("a", 0), (-1, 9), False), False), ((("t", 1), ("t", 1), (1, GREAT), True), True),
                ((("s", 1), ("a", 0), (3, 2), False), True), ((("s", 1), ("a", 0), (3, 2), True), False),
                ((("a", 0), ("s", 1), (-3, 2), False), True), ((("t", 1), ("b", 0), (0, 1), False), True),
                ((("s", 1), ("a", 0), (3 * GREAT - 1, 2 * GREAT), False), False),
                ((("s", 1), ("a", 0), (3 * GREAT + 1, 2 * GREAT), True), True)):
            self.assertSays(wanted, has_row, THINGS, telling, row)

    def test_against_times_laid_out(self):
        dice = random.Random(25)
        for at in range(500):
            things = some_things(dice, dice.randrange(2, 7))
            row = some_saying(dice, things)[1:]
            telling = some_telling(dice, things)
            self.assertSays(is_row_so(things, telling, row), has_row, things, telling, row)


class Steps(Case):
    def gives(self, step, wanted, talk=TALK, rows=ROWS):
        kept = copy.deepcopy(rows)
        self.assertExactly(row_of(talk, list(rows), step), wanted)
        self.assertExactly(row_of(talk, tuple(rows), step), wanted)
        self.assertExactly(rows, kept)

    def test_told(self):
        self.gives(("told", 0), ("a", "s", ("ahead", "within")))
        self.gives(("told", 1), (("s", 1), ("a", 0), (-1, 2), True))
        self.gives(("told", 2), ("t", "b", ("ended", "behind")))
        self.gives(("told", 2), ("t", "b", ("ended", "behind")), rows=[])
        self.gives(("told", 39), ("a", "s", ("ahead", "within")), talk=(THINGS, SAYINGS[1:2] * 39 + SAYINGS[:1]))
        for k in (3, -1, 40, True, False, None, "0", (0,), [0], 10 ** 39):
            self.gives(("told", k), None)
        self.gives(("told", 0), None, talk=(THINGS, ()))
        self.gives(("told",), None)
        self.gives(("told", 0, 0), None)

    def test_any(self):
        for a, one in THINGS:
            for b, other in THINGS:
                self.gives(("any", a, b), (a, b, WORDS[one, other]) if a != b else None, rows=[])
        for a in ("x", "", "A", None, True, 0, ("a",), ["a"], ("a", 0), "ab"):
            self.gives(("any", a, "s"), None)
            self.gives(("any", "s", a), None)
        self.gives(("any", "a"), None)
        self.gives(("any", "a", "b", "s"), None)

    def test_long(self):
        self.gives(("long", "s"), (("s", 0), ("s", 1), NOUGHT, True), rows=[])
        self.gives(("long", "t"), (("t", 0), ("t", 1), NOUGHT, True))
        for s in ("a", "b", "x", "", None, True, 0, ("s",), ["s"], ("s", 0), ("s", 1), "st", "stretch", ("s", "stretch")):
            self.gives(("long", s), None)
        self.gives(("long",), None)
        self.gives(("long", "s", "t"), None)

    def test_turned(self):
        self.gives(("turned", 0), ("s", "a", ("begun", "behind")))
        self.gives(("turned", 1), ("t", "s", ("lapped", "met")))
        self.gives(("turned", 4), ("s", "a", ()))
        for kinds in ALL_KINDS:
            things = (("a", kinds[0]), ("b", kinds[1]))
            rows = [("a", "b", WORDS[kinds])] + [("a", "b", (word,)) for word in WORDS[kinds]]
            self.gives(("turned", 0), ("b", "a", WORDS[kinds[::-1]]), talk=(things, ()), rows=rows)
            for at, word in enumerate(WORDS[kinds]):
                self.gives(("turned", at + 1), ("b", "a", (TURNED[word],)), talk=(things, ()), rows=rows)
        for i in (6, 11, 12, -1, -12, True, False, None, "0", (0,), [0], 10 ** 39):
            self.gives(("turned", i), None)
        self.gives(("turned",), None)
        self.gives(("turned", 0, 0), None)

    def test_behind(self):
        self.gives(("behind", 0, 1), ("a", "t", ("ahead",)))
        self.gives(("behind", 3, 1), ("a", "t", ("ahead", "begins", "within", "ends", "behind")))
        self.gives(("behind", 5, 2), ("t", "a", ("begun", "behind")))
        self.gives(("behind", 4, 1), ("a", "t", ()))
        self.gives(("behind", 0, 2), None)
        self.gives(("behind", 1, 5), None)
        self.gives(("behind", 1, 0), None)
        self.gives(("behind", 0, 0), None)
        self.gives(("behind", 0, 5), None)
        self.gives(("behind", 5, 0), None)

    def test_both(self):
        self.gives(("both", 0, 3), ("a", "s", ("begins",)))
        self.gives(("both", 3, 0), ("a", "s", ("begins",)))
        self.gives(("both", 3, 3), ROWS[3])
        self.gives(("both", 3, 4), ("a", "s", ()))
        self.gives(("both", 4, 4), ("a", "s", ()))
        for i, j in ((0, 2), (2, 0), (1, 5), (0, 1)):
            self.gives(("both", i, j), None)
        words = (("a", "s", ("ahead", "within", "behind")), ("a", "s", ("begins", "within", "ends", "behind")))
        self.gives(("both", 1, 0), ("a", "s", ("within", "behind")), rows=list(words))

    def test_numbers_of_rows(self):
        for name, may in (("behind", (0, 1)), ("both", (0, 3))):
            for wrong in (6, 8, 11, 12, -1, -9, True, False, None, "0", (0,), [1], 10 ** 39):
                self.gives((name, wrong, may[1]), None)
                self.gives((name, may[0], wrong), None)
            self.gives((name,) + may + (0,), None)
            self.gives((name, 0), None)
        for wrong in (0, 4, 5, 12, -1, -6, True, False, None, "6", (6,), [6], 10 ** 39):
            self.gives(("add", wrong, 7), None)
            self.gives(("add", 6, wrong), None)
            self.gives(("strike", 0, wrong), None)
        for wrong in (6, 8, 11, 12, -12, True, False, None, "0", (0,), [0], 10 ** 39):
            self.gives(("strike", wrong, 6), None)
            self.gives(("ends", wrong, ("a", 0), ("s", 0)), None)

    def test_truths_for_numbers(self):
        rows = [("a", "s", ("ahead",)), ("a", "s", ("ahead", "begins"))]
        gaps = [(("a", 0), ("a", 0), NOUGHT, False)] * 2
        for step in (("turned", True), ("both", False, 1), ("both", 0, True), ("ends", False, ("a", 0), ("s", 0)),
                     ("ends", 0, ("a", False), ("s", 0)), ("ends", 0, ("a", 0), ("s", True))):
            self.gives(step, None, rows=rows)
        self.gives(("add", False, 0), None, rows=gaps)
        self.gives(("add", 0, True), None, rows=gaps)
        self.gives(("add", 0, 1), gaps[0], rows=gaps)
        self.gives(("told", False), None)
        self.gives(("strike", 0, True), None, rows=[rows[0], (("a", 0), ("s", 0), NOUGHT, True)])

    def test_ends(self):
        a, s, b, e = ("a", 0), ("s", 0), ("b", 0), ("s", 1)
        self.gives(("ends", 0, a, s), (a, s, NOUGHT, False))
        self.gives(("ends", 0, a, e), (a, e, NOUGHT, True))
        self.gives(("ends", 0, s, a), None)
        self.gives(("ends", 0, e, a), None)
        self.gives(("ends", 1, e, ("t", 0)), None)
        self.gives(("ends", 1, s, ("t", 0)), (s, ("t", 0), NOUGHT, True))
        self.gives(("ends", 1, e, ("t", 1)), (e, ("t", 1), NOUGHT, True))
        self.gives(("ends", 1, ("t", 0), e), (("t", 0), e, NOUGHT, False))
        self.gives(("ends", 1, ("t", 1), e), None)
        self.gives(("ends", 2, a, e), (a, e, NOUGHT, False))
        self.gives(("ends", 2, a, s), None)
        self.gives(("ends", 3, a, e), None)
        self.gives(("ends", 4, a, s), None)
        self.gives(("ends", 5, e, ("t", 0)), (e, ("t", 0), NOUGHT, False))
        self.gives(("ends", 0, b, s), None)
        self.gives(("ends", 0, s, e), None)
        self.gives(("ends", 0, a, a), None)
        self.gives(("ends", 0, a, ("t", 1)), None)
        self.gives(("ends", 6, a, s), None)
        self.gives(("ends", 0, a), None)
        self.gives(("ends", 0, a, s, e), None)

    def test_ends_of_one_word_alike(self):
        rows = [("a", "s", ("ends",)), ("a", "b", ("same",)), ("s", "t", ("same",))]
        for step, wanted in ((("ends", 0, ("a", 0), ("s", 1)), (("a", 0), ("s", 1), NOUGHT, False)),
                             (("ends", 0, ("s", 1), ("a", 0)), (("s", 1), ("a", 0), NOUGHT, False)),
                             (("ends", 1, ("b", 0), ("a", 0)), (("b", 0), ("a", 0), NOUGHT, False)),
                             (("ends", 2, ("t", 1), ("s", 1)), (("t", 1), ("s", 1), NOUGHT, False)),
                             (("ends", 2, ("t", 0), ("s", 1)), (("t", 0), ("s", 1), NOUGHT, True)),
                             (("ends", 2, ("s", 1), ("t", 0)), None)):
            self.gives(step, wanted, rows=rows)

    def test_ends_of_nothing(self):
        for wrong in (("a", 1), ("a", True), ("a", False), ("s", 2), ("s", -1), ("s", True), ("x", 0), "a", "s", ("s",),
                      ["s", 0], ["a", 0], ("s", 0, 0), ("s", "0"), (None, 0), None, True, 0, (), ("b", 0), ("t", 0)):
            self.gives(("ends", 0, wrong, ("s", 1)), None)
            self.gives(("ends", 0, ("a", 0), wrong), None)

    def test_strike(self):
        rows = [("a", "s", WORDS[P, S]), ("s", "a", WORDS[S, P]), ("s", "t", ORDER), ("a", "s", ())]
        for gap, may, wanted in (
                ((("a", 0), ("s", 0), (-1, 2), False), 0, ("ahead",)),
                ((("a", 0), ("s", 0), (0, 1), True), 0, ("ahead",)),
                ((("a", 0), ("s", 0), (0, 1), False), 0, ("ahead", "begins")),
                ((("a", 0), ("s", 0), (-GREAT, 7), True), 0, ("ahead",)),
                ((("s", 1), ("a", 0), (0, 1), False), 0, ("ends", "behind")),
                ((("s", 1), ("a", 0), (0, 1), False), 1, ("ahead", "ended")),
                ((("s", 0), ("a", 0), (0, 1), True), 1, ("ahead", "ended", "holds")),
                ((("t", 0), ("s", 1), (0, 1), True), 2, ORDER[2:]),
                ((("t", 0), ("s", 1), (0, 1), False), 2, ORDER[1:]),
                ((("s", 0), ("t", 0), (-1, 9), False), 2, ("ahead", "meets", "overlaps", "ended", "holds")),
                ((("s", 1), ("t", 1), (0, 1), False), 2, ORDER[:8]),
                ((("a", 0), ("s", 0), (0, 1), False), 3, ())):
            self.gives(("strike", may, 4), rows[may][:2] + (wanted,), rows=rows + [gap])

    def test_strike_that_is_none(self):
        for gap in ((("a", 0), ("s", 0), (1, 9), True), (("a", 0), ("s", 0), (1, GREAT), False),
                    (("a", 0), ("b", 0), (-1, 1), True), (("s", 0), ("s", 1), (-1, 1), True), (("a", 0), ("a", 0), (-1, 1), True),
                    (("s", 0), ("b", 0), (0, 1), True), (("a", 0), ("t", 0), (0, 1), True), (("t", 0), ("b", 0), (0, 1), True)):
            self.gives(("strike", 0, 1), None, rows=[("a", "s", WORDS[P, S]), gap])

    def test_add(self):
        self.gives(("add", 6, 7), (("a", 0), ("b", 0), (1, 6), True))
        self.gives(("add", 8, 6), (("s", 1), ("s", 0), (-1, 3), False))
        self.gives(("add", 6, 9), (("a", 0), ("a", 0), (-1, 3), True))
        self.gives(("add", 10, 10), (("b", 0), ("b", 0), pair(Fraction(2 * GREAT, 3)), False))
        self.gives(("add", 7, 10), (("s", 0), ("b", 0), pair(Fraction(2 * GREAT + 3, 6)), True))
        for i, j in ((7, 6), (6, 8), (6, 6), (8, 9), (7, 8), (6, 11)):
            self.gives(("add", i, j), None)

    def test_no_steps(self):
        for step in GOOD_STEPS:
            self.assertIsNotNone(row_of(TALK, ROWS, step))
            for wrong in (list(step), step[:1], step[1:], step + (0,), step + ((),), (step,), [step], step[0],
                          (step[0].upper(),) + step[1:], ("x",) + step[1:], (None,) + step[1:], ([step[0]],) + step[1:],
                          (True,) + step[1:], ((step[0],),) + step[1:], (step[0] + " ",) + step[1:], ("",) + step[1:]):
                self.gives(wrong, None)
            for at in range(1, len(step)):
                for wrong in ODD:
                    if not (wrong in (0, 1) or wrong == "a"):
                        self.assertIsNone(row_of(TALK, ROWS, step[:at] + (wrong,) + step[at + 1:]))
        for wrong in ODD + ((),):
            self.assertIsNone(row_of(TALK, ROWS, wrong))
            self.assertIsNone(row_of(TALK, [], wrong))

    def test_cases_are_no_step_that_gives_a_row(self):
        for step in (("cases", 0, ((("ahead",), ()), (("begins",), ()))), ("cases", 4, (((), ()),)), ("cases", 0)):
            self.gives(step, None)

    def test_names_that_begin_alike(self):
        things = (("a", P), ("ab", S), ("abc", S))
        rows = [("a", "ab", ("ahead",)), ("ab", "abc", ("ahead",)), ("a", "abc", ("ahead",))]
        self.gives(("behind", 0, 1), ("a", "abc", ("ahead",)), talk=(things, ()), rows=rows)
        self.gives(("ends", 0, ("a", 0), ("abc", 0)), None, talk=(things, ()), rows=rows)
        self.gives(("behind", 0, 2), None, talk=(things, ()), rows=rows)


class Fuzz(Case):
    """Steps by dice, right ones and nearly right ones, against the document's meaning of them."""

    def thing(self, dice, talk, rows):
        things = talk[0]
        ends = [(name, number) for name, kind in things for number in (0, 1)]
        names = [name for name, kind in things] + ["zz"]
        number = dice.randrange(-1, max(len(rows), len(talk[1])) + 1)
        return dice.choice((number, number, number, dice.choice(ends), dice.choice(names), True, None, [number]))

    def step(self, dice, talk, rows):
        things = talk[0]
        name = dice.choice(("told", "any", "long", "turned") + ("behind", "both", "ends", "strike", "add", "ends") * 4)
        shape = {"told": "k", "any": "nn", "long": "n", "turned": "m", "behind": "mm", "both": "mm", "ends": "mee",
                 "strike": "mg", "add": "gg"}[name]
        numbers = {"k": range(len(talk[1])), "m": [at for at, row in enumerate(rows) if len(row) == 3],
                   "g": [at for at, row in enumerate(rows) if len(row) == 4]}
        found = [name]
        for sign in shape:
            if dice.random() < 0.04:
                found.append(self.thing(dice, talk, rows))
            elif sign == "n":
                found.append(dice.choice(things)[0])
            elif sign == "e":
                found.append((dice.choice(things)[0], dice.choice((0, 0, 1))))
            else:
                found.append(dice.choice(numbers[sign] or [0]))
        return tuple(found)

    def test_against_the_documents_meaning(self):
        dice = random.Random(26)
        given = {}
        for at in range(120):
            things = some_things(dice, dice.randrange(2, 5))
            talk = (things, tuple(some_saying(dice, things) for at in range(dice.randrange(1, 6))))
            telling = some_telling(dice, things)
            rows = []
            for tries in range(200):
                step = self.step(dice, talk, rows)
                wanted = row_given(talk, rows, step)
                self.assertExactly(row_of(talk, rows, step), wanted)
                if wanted is not None:
                    given[step[0]] = given.get(step[0], 0) + 1
                    self.assertSays(is_fault_row(wanted), is_fault, wanted)
                    self.assertSays(is_row_so(things, telling, wanted), has_row, things, telling, wanted)
                    rows.append(wanted)
        self.assertGreater(min(given.values()), 100)
        self.assertEqual(len(given), 9)

    def test_tellings_have_what_steps_give(self):
        dice = random.Random(28)
        for at in range(60):
            things = some_things(dice, dice.randrange(2, 5))
            telling = some_telling(dice, things)
            sayings = [saying for saying in [some_saying(dice, things) for at in range(30)]
                       if is_row_so(things, telling, saying[1:])]
            talk = (things, tuple(sayings[:24]))
            rows = []
            for tries in range(100):
                row = row_of(talk, rows, self.step(dice, talk, rows))
                if row is not None:
                    self.assertSays(True, has_row, things, telling, row)
                    rows.append(row)
                    if len(row) == 3 and dice.random() < 0.3:
                        # Rows that stand need not come of steps.
                        x, y = dice.sample([(name, 0) for name, kind in things], 2)
                        gap = (x, y, some_number(dice), dice.random() < 0.5)
                        if has_row(things, telling, gap):
                            rows.append(gap)


if __name__ == "__main__":
    unittest.main()
