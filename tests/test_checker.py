"""Points 29, 30, 31, 33: papers, what the checker lets by, and what it refuses, where and with which word."""

import itertools
import random
import unittest

from whens.checker import lets_no, rows_of
from whens.errors import NoPaper
from whens.talks import keeps

from layouts import ODD, ORDER, TURNED, WORDS, Case
from oracle import (
    all_tellings, behind_laid, in_order, is_fault_row, is_row_so, refusal, row_given, some_saying, some_things,
)

P, S = "point", "stretch"
POINTS = (("a", P), ("b", P), ("c", P))
CLASH = (POINTS, (("may", "a", "b", ("ahead",)), ("may", "a", "b", ("same", "behind"))))
SHUT = (("told", 0), ("told", 1), ("both", 0, 1))
TRIED = (POINTS, (("may", "a", "b", ("ahead", "same")), ("may", "b", "c", ("ahead", "same")), ("may", "a", "c", ("behind",))))
# Rows 0 to 2 are told; 3 and 4 are those of the parts that are chosen.
LAST = (("behind", 3, 4), ("both", 5, 2))
SECOND = (("cases", 1, ((("ahead",), LAST), (("same",), LAST))),)
TOLD = (("told", 0), ("told", 1), ("told", 2))
CASES = TOLD + (("cases", 0, ((("ahead",), SECOND), (("same",), SECOND))),)


def nested(many, last=(("both", 0, 1),)):
    """A paper for CLASH of so many cases within one another, rows 0 and 1 standing."""
    paper = last
    for at in range(many):
        paper = (("cases", 0, ((("ahead",), paper),)),)
    return paper


def said(*sayings):
    return (POINTS, sayings)


class LetBy(Case):
    def let_by(self, talk, paper):
        self.assertIs(lets_no(talk, paper), True)
        self.assertIsNone(refusal(talk, paper))

    def test_mays_without_a_word_in_common(self):
        self.let_by(CLASH, SHUT)
        self.let_by(said(("may", "a", "b", ("ahead",)), ("may", "b", "a", ("ahead", "same"))),
                    (("told", 0), ("told", 1), ("turned", 1), ("both", 2, 0)))

    def test_words_behind_one_another(self):
        self.let_by(said(("may", "a", "b", ("ahead",)), ("may", "b", "c", ("ahead",)), ("may", "c", "a", ("ahead",))),
                    (("told", 0), ("told", 1), ("behind", 0, 1), ("told", 2), ("turned", 3), ("both", 2, 4)))

    def test_gaps_that_come_round_to_less_than_0(self):
        gaps = (("gap", ("a", 0), ("b", 0), (-1, 2), False), ("gap", ("b", 0), ("c", 0), (1, 3), False),
                ("gap", ("c", 0), ("a", 0), (1, 7), False))
        paper = (("told", 0), ("told", 1), ("told", 2), ("add", 0, 1), ("add", 3, 2))
        self.let_by((POINTS, gaps), paper)
        self.let_by((POINTS, gaps[1:] + gaps[:1]), paper)

    def test_gaps_that_come_round_to_0_strictly(self):
        for strict in ((True, False), (False, True), (True, True)):
            self.let_by(said(("gap", ("a", 0), ("b", 0), (-5, 3), strict[0]), ("gap", ("b", 0), ("a", 0), (5, 3), strict[1])),
                        (("told", 0), ("told", 1), ("add", 1, 0)))

    def test_a_stretch_that_must_end_ahead_of_its_begin(self):
        for number in ((0, 1), (-1, 9)):
            self.let_by(((("s", S),), (("gap", ("s", 1), ("s", 0), number, False),)),
                        (("told", 0), ("long", "s"), ("add", 0, 1)))
            self.let_by(((("s", S),), (("gap", ("s", 1), ("s", 0), number, False),)),
                        (("told", 0), ("long", "s"), ("add", 1, 0)))

    def test_ends_and_strikes(self):
        things = (("a", P), ("s", S))
        talk = (things, (("may", "a", "s", ("within", "ends")), ("gap", ("a", 0), ("s", 0), (0, 1), False)))
        self.let_by(talk, (("told", 0), ("told", 1), ("strike", 0, 1)))
        self.let_by(talk, (("told", 0), ("ends", 0, ("s", 0), ("a", 0)), ("told", 1), ("add", 1, 2)))
        self.let_by(talk, (("any", "s", "a"), ("told", 1), ("strike", 0, 1), ("turned", 2), ("told", 0), ("both", 3, 4)))

    def test_cases(self):
        self.let_by(TRIED, CASES)
        self.let_by(TRIED, TOLD + (("cases", 0, ((("ahead", "same"), SECOND),)),))

    def test_cases_with_words_in_common_and_parts_twice(self):
        ahead, same, two = (("ahead",), SECOND), (("same",), SECOND), (("ahead", "same"), SECOND)
        for parts in ((ahead, two), (two, same), (two, two), (ahead, same, ahead), (same, ahead), (ahead, same, two)):
            self.let_by(TRIED, TOLD + (("cases", 0, parts),))

    def test_a_part_of_no_words(self):
        none = ((), (("both", 3, 3),))
        self.let_by(TRIED, TOLD + (("cases", 0, ((("ahead", "same"), SECOND), none)),))
        self.let_by(CLASH, SHUT + (("cases", 2, (((), (("both", 2, 3),)),)),))

    def test_cases_of_told_turned_and_any_rows(self):
        talk = said(("may", "a", "b", ("ahead",)), ("gap", ("b", 0), ("a", 0), (0, 1), False))
        self.let_by(talk, (("told", 1), ("any", "a", "b"),
                           ("cases", 1, ((("ahead",), (("ends", 2, ("a", 0), ("b", 0)), ("add", 3, 0))),
                                         (("same", "behind"), (("told", 0), ("both", 3, 2)))))))

    def test_a_fault_ahead_of_the_last_step(self):
        self.let_by(CLASH, SHUT + SHUT)
        self.let_by(CLASH, SHUT + (("any", "b", "c"), ("both", 0, 1)))

    def test_twelve_cases_within_one_another(self):
        for many in range(13):
            self.let_by(CLASH, SHUT[:2] + nested(many))

    def test_cases_beside_one_another_are_not_within(self):
        parts = tuple((("ahead",), nested(11)) for at in range(6))
        self.let_by(CLASH, SHUT[:2] + (("cases", 0, parts),))

    def test_two_thousand_steps(self):
        long = (("told", 0), ("any", "b", "c"), ("told", 1)) + (("behind", 0, 1), ("turned", 2)) * 998 + (("both", 0, 2),)
        self.assertEqual(len(long), 2000)
        self.let_by(CLASH, long)

    def test_a_little_below_0_doubled_a_thousand_times(self):
        steps = (("told", 0), ("told", 1), ("add", 0, 1)) + tuple(("add", at, at) for at in range(2, 1200))
        less = (("gap", ("a", 0), ("b", 0), (-7, 999998), False), ("gap", ("b", 0), ("a", 0), (7, 999999), False))
        more = (("gap", ("a", 0), ("b", 0), (-7, 999999), False), ("gap", ("b", 0), ("a", 0), (7, 999998), False))
        self.let_by((POINTS, less), steps)
        self.assertEqual(self.where((POINTS, more), steps), ((), "open"))

    def test_two_thousand_steps_of_wide_mays(self):
        things = (("r", S), ("s", S), ("t", S))
        wide = tuple(word for word in ORDER if word not in ("ahead", "behind"))
        sayings = (("may", "r", "s", wide), ("may", "s", "t", wide), ("may", "r", "t", ("ahead",)), ("may", "t", "r", ("ahead",)))
        steps = (("told", 0), ("told", 1), ("told", 2), ("told", 3), ("turned", 3)) + (("behind", 0, 1),) * 1994
        self.let_by((things, sayings), steps + (("both", 2, 4),))

    def test_talks_of_forty_sayings(self):
        sayings = tuple(("may", "b", "c", ("ahead", "same")) for at in range(38)) + CLASH[1]
        self.let_by((POINTS, sayings), (("told", 38), ("told", 39), ("both", 0, 1)))

    def where(self, talk, thing):
        with self.assertRaises(NoPaper) as caught:
            lets_no(talk, thing)
        return (caught.exception.path, caught.exception.word)

    def test_for_talks_with_these_sayings_first(self):
        more = (("may", "b", "c", ("same",)), ("gap", ("c", 0), ("a", 0), (1, 1), True))
        self.let_by((POINTS, CLASH[1] + more), SHUT)
        self.let_by((POINTS, TRIED[1] + more), CASES)

    def test_retold(self):
        talk = (POINTS, (("may", "b", "c", ("same",)), CLASH[1][1], ("gap", ("c", 0), ("a", 0), (1, 1), True), CLASH[1][0]))
        self.let_by(talk, (("told", 3), ("told", 1), ("both", 0, 1)))
        self.assertEqual(self.where(talk, SHUT), ((2,), "step"))

    def test_laid_behind_rows(self):
        laid = (("told", 0), ("told", 1), ("both", 3, 4))
        self.let_by(CLASH, (("any", "a", "c"), ("any", "b", "c"), ("any", "c", "a")) + laid)
        self.let_by(CLASH, (("any", "a", "c"), ("any", "b", "c"), ("cases", 1, ((WORDS[P, P], laid),))))
        last = (("behind", 5, 6), ("both", 7, 4))
        inner = (("cases", 3, ((("ahead",), last), (("same",), last))),)
        self.let_by(TRIED, (("any", "a", "c"), ("any", "c", "a")) + TOLD + (
            ("cases", 2, ((("ahead",), inner), (("same",), inner))),))


class Refused(Case):
    def refused(self, path, word, talk, thing):
        with self.assertRaises(NoPaper, msg=thing) as caught:
            lets_no(talk, thing)
        self.assertExactly((caught.exception.path, caught.exception.word), (path, word))
        self.assertExactly(refusal(talk, thing), (path, word))

    def test_shape(self):
        for thing in (None, True, 0, "", "told", [], list(SHUT), [("told", 0)]):
            self.refused((), "shape", CLASH, thing)
            self.refused((2, 0), "shape", CLASH, SHUT[:2] + (("cases", 0, ((("ahead",), thing),)),))
        self.refused((2, 1), "shape", CLASH, SHUT[:2] + (("cases", 0, ((("ahead",), SHUT), (("ahead",), list(SHUT)))),))
        self.refused((3, 1, 0, 1), "shape", TRIED, TOLD + (("cases", 0, (
            (("ahead",), SECOND), (("same",), (("cases", 1, ((("ahead",), LAST), (("same",), None))),)))),))

    def test_open(self):
        self.refused((), "open", CLASH, ())
        self.refused((), "open", CLASH, SHUT[:2])
        self.refused((), "open", CLASH, SHUT + (("told", 0),))
        self.refused((), "open", CLASH, (("told", 0),))
        self.refused((2, 0), "open", CLASH, SHUT[:2] + (("cases", 0, ((("ahead",), ()),)),))
        self.refused((2, 0), "open", CLASH, SHUT[:2] + (("cases", 0, ((("ahead",), (("told", 1),)),)),))
        self.refused((2, 1), "open", CLASH, SHUT[:2] + (("cases", 0, ((("ahead",), SHUT[:0] + (("both", 0, 1),)),
                                                                       (("ahead",), ()))),))
        self.refused((3, 1, 0, 0), "open", TRIED, TOLD + (("cases", 0, (
            (("ahead",), SECOND), (("same",), (("cases", 1, ((("ahead",), ()), (("same",), LAST))),)))),))

    def test_a_fault_that_stands_already_shuts_nothing(self):
        self.refused((), "open", CLASH, SHUT + (("any", "a", "b"),))
        self.refused((3, 0), "open", CLASH, SHUT + (("cases", 0, ((("ahead",), ()),)),))
        self.refused((3, 0), "open", CLASH, SHUT + (("cases", 2, (((), ()),)),))

    def test_gaps_that_come_round_to_0_or_more(self):
        for number, strict in (((5, 3), False), ((2, 1), True), ((2, 1), False)):
            talk = said(("gap", ("a", 0), ("b", 0), (-5, 3), False), ("gap", ("b", 0), ("a", 0), number, strict))
            self.refused((), "open", talk, (("told", 0), ("told", 1), ("add", 0, 1)))
        talk = said(("gap", ("a", 0), ("b", 0), (-5, 3), True), ("gap", ("b", 0), ("c", 0), (0, 1), True))
        self.refused((), "open", talk, (("told", 0), ("told", 1), ("add", 0, 1)))

    def test_steps(self):
        self.refused((0,), "step", CLASH, (None,))
        self.refused((0,), "step", CLASH, ((),))
        self.refused((0,), "step", CLASH, ("told", 0))
        self.refused((0,), "step", CLASH, (["told", 0],) + SHUT[1:])
        self.refused((1,), "step", CLASH, SHUT[:1] + (("told", 2),) + SHUT)
        self.refused((1,), "step", CLASH, SHUT[:1] + (("told", True),) + SHUT)
        self.refused((2,), "step", CLASH, SHUT[:2] + (("both", 0, 2),))
        self.refused((2,), "step", CLASH, SHUT[:2] + (("both", 0, True), None))
        self.refused((3,), "step", CLASH, SHUT + (("told", 0, 0),))
        self.refused((3,), "step", CLASH, SHUT + (None,))
        self.refused((2, 0, 1), "step", CLASH, SHUT[:2] + (("cases", 0, ((("ahead",), (("told", 0), ("both", 0, 9))),)),))
        self.refused((2, 1, 0), "step", CLASH, SHUT[:2] + (
            ("cases", 0, ((("ahead",), (("both", 0, 1),)), (("ahead",), (("both", 1, 9),)), (("ahead",), None))),))

    def test_a_row_of_a_part_stands_in_its_paper_alone(self):
        good = (("told", 1), ("both", 0, 3))
        self.refused((2, 1, 1), "step", CLASH, (("told", 0), ("any", "b", "c"), ("cases", 0, (
            (("ahead",), good), (("ahead",), (("told", 1), ("both", 0, 4)))))))

    def test_cases_that_are_none(self):
        good = (("ahead", "same"), SECOND)
        for step in (
                ("cases",), ("cases", 0), ("cases", 0, (good,), ()), ["cases", 0, (good,)], ("Cases", 0, (good,)),
                (["cases"], 0, (good,)), ("cases", 3, (good,)), ("cases", -1, (good,)), ("cases", True, (good,)),
                ("cases", False, (good,)), ("cases", None, (good,)), ("cases", "0", (good,)), ("cases", (0,), (good,)),
                ("cases", 0, ()), ("cases", 0, [good]), ("cases", 0, None), ("cases", 0, "ab"), ("cases", 0, good),
                ("cases", 0, (good, None)), ("cases", 0, (good, ())), ("cases", 0, (good, ((),))),
                ("cases", 0, (good, ((), SECOND, ()))), ("cases", 0, (list(good),)), ("cases", 0, (good, list(good))),
                ("cases", 0, ((["ahead", "same"], SECOND),)), ("cases", 0, ((("same", "ahead"), SECOND),)),
                ("cases", 0, ((("ahead", "ahead", "same"), SECOND),)), ("cases", 0, ((("ahead",), SECOND),)),
                ("cases", 0, ((("same",), SECOND),)), ("cases", 0, (((), SECOND),)),
                ("cases", 0, ((("ahead", "same", "behind"), SECOND),)), ("cases", 0, (good, (("behind",), SECOND))),
                ("cases", 0, (good, (("within",), SECOND))), ("cases", 0, (good, (("ahead", None), SECOND))),
                ("cases", 0, (good, (("ahead", True), SECOND))), ("cases", 0, (good, ("ahead", SECOND))),
                ("cases", 0, (good, (None, SECOND))), ("cases", 0, (good, ("", SECOND)))):
            self.refused((3,), "step", TRIED, TOLD + (step,))

    def test_cases_of_a_row_without_words_have_parts_too(self):
        self.refused((3,), "step", CLASH, SHUT + (("cases", 2, ()),))
        self.refused((3,), "step", CLASH, SHUT + (("cases", 2, ((("ahead",), SHUT),)),))

    def test_cases_of_gap_rows(self):
        talk = said(("gap", ("a", 0), ("b", 0), (-1, 1), False))
        self.refused((1,), "step", talk, (("told", 0), ("cases", 0, (((), ()),))))
        self.refused((1,), "step", talk, (("told", 0), ("cases", 0, ((("ahead",), ()),))))

    def test_cases_are_looked_at_ahead_of_their_papers(self):
        self.refused((3,), "step", TRIED, TOLD + (("cases", 0, ((("ahead",), None), (("behind",), None))),))
        self.refused((3,), "step", TRIED, TOLD + (("cases", 0, ((("ahead",), None), None)),))
        self.refused((3, 0), "shape", TRIED, TOLD + (("cases", 0, ((("ahead",), None), (("same",), None))),))

    def test_cases_are_the_last_step(self):
        cases = ("cases", 0, ((("ahead",), (("both", 0, 1),)),))
        self.refused((2,), "step", CLASH, SHUT[:2] + (cases, ("both", 0, 1)))
        self.refused((2,), "step", CLASH, SHUT[:2] + (cases, cases))
        self.refused((2,), "step", CLASH, SHUT[:2] + (cases, None))
        self.refused((2, 0, 0), "step", CLASH, SHUT[:2] + (("cases", 0, ((("ahead",), (cases, ("both", 0, 1))),)),))

    def test_the_thirteenth_cases(self):
        self.refused((2,) + (0, 0) * 12, "step", CLASH, SHUT[:2] + nested(13))
        self.refused((2,) + (0, 0) * 12, "step", CLASH, SHUT[:2] + nested(14))
        self.refused((1,) + (0, 0) * 12, "step", CLASH, SHUT[:1] + nested(13, last=None))
        parts = ((("ahead",), nested(11)), (("ahead",), nested(12)))
        self.refused((2, 1, 0) + (0, 0) * 11, "step", CLASH, SHUT[:2] + (("cases", 0, parts),))

    def test_the_first_that_is_met(self):
        self.refused((1,), "step", CLASH, (("told", 0), ("told", 9), ("told", 8)))
        self.refused((2, 0, 0), "step", CLASH, SHUT[:2] + (("cases", 0, ((("ahead",), (None,)), (("ahead",), None))),))
        self.refused((2, 0), "open", CLASH, SHUT[:2] + (("cases", 0, ((("ahead",), ()), (("ahead",), (None,)))),))

    def test_plain_things_of_all_sorts(self):
        for thing in ODD:
            wanted = ((0,), "step") if isinstance(thing, tuple) else ((), "shape")
            self.refused(*wanted, CLASH, thing)
            self.refused((2,), "step", CLASH, SHUT[:2] + (thing,))
            self.refused((2,), "step", CLASH, SHUT[:2] + (("cases", 0, thing),))
            if thing != ((), ()):
                self.refused((2,), "step", CLASH, SHUT[:2] + (("cases", 0, ((("ahead",), SHUT), thing)),))

    def test_nothing_that_is_handed_in_is_changed(self):
        thing = SHUT[:2] + (("cases", 0, ((("ahead",), [["told", 0], [1]]), (("ahead",), SHUT))),)
        before = repr(thing)
        self.refused((2, 0), "shape", CLASH, thing)
        self.assertEqual(repr(thing), before)

    def test_of_other_talks(self):
        self.refused((), "open", (POINTS, CLASH[1][:1] * 2), SHUT)
        self.refused((1,), "step", (POINTS, CLASH[1][:1]), SHUT)


class RowsOf(Case):
    def test_written_out(self):
        self.assertExactly(rows_of(CLASH, SHUT), [
            ("a", "b", ("ahead",)), ("a", "b", ("same", "behind")), ("a", "b", ())])
        self.assertExactly(rows_of(TRIED, CASES), [
            ("a", "b", ("ahead", "same")), ("b", "c", ("ahead", "same")), ("a", "c", ("behind",))])
        talk = ((("s", S),), (("gap", ("s", 1), ("s", 0), (-1, 9), False),))
        self.assertExactly(rows_of(talk, (("told", 0), ("long", "s"), ("add", 0, 1))), [
            (("s", 1), ("s", 0), (-1, 9), False), (("s", 0), ("s", 1), (0, 1), True), (("s", 1), ("s", 1), (-1, 9), True)])

    def test_the_list_is_the_askers_own(self):
        rows_of(CLASH, SHUT).clear()
        self.assertEqual(len(rows_of(CLASH, SHUT)), 3)


class Fuzz(Case):
    """Papers by dice, and papers with a place otherwise, against the document's meaning and against times."""

    def tried(self, dice):
        """A talk of three things that no telling keeps, and a paper of cases of its words, or None."""
        kinds = tuple(dice.choice((P, S)) for at in range(3))
        things = tuple(zip("abc", kinds))
        one, other, third = [in_order(dice.sample(words, dice.randrange(1, 4))) for words in (
            WORDS[kinds[:2]], WORDS[kinds[1:]], WORDS[kinds[0], kinds[2]])]
        if any(set(behind_laid(kinds, a, b)) & set(third) for a in one for b in other):
            return None
        turned = in_order([TURNED[word] for word in third])
        talk = (things, (("may", "a", "b", one), ("may", "b", "c", other), ("may", "c", "a", turned)))
        last = (("behind", 4, 5), ("both", 6, 3))
        inner = (("cases", 1, self.parts(dice, other, last)),)
        return talk, TOLD + (("turned", 2), ("cases", 0, self.parts(dice, one, inner)))

    def parts(self, dice, words, paper):
        parts = [((word,), paper) for word in words]
        parts += [(in_order(dice.sample(words, dice.randrange(len(words) + 1))), paper) for at in range(dice.randrange(2))]
        dice.shuffle(parts)
        return tuple(parts)

    def otherwise(self, dice, thing, deep=0):
        """The thing with one place within it otherwise."""
        if not isinstance(thing, tuple) or not thing or dice.random() < 0.08:
            return self.other(dice, thing)
        at = dice.randrange(len(thing))
        chance = dice.random()
        if chance < 0.03:
            return thing[:at] + thing[at + 1:]
        if chance < 0.06:
            return thing[:at] + thing[at:at + 1] + thing[at:]
        return thing[:at] + (self.otherwise(dice, thing[at], deep + 1),) + thing[at + 1:]

    def other(self, dice, thing):
        if isinstance(thing, tuple) and dice.random() < 0.5:
            return list(thing)
        if isinstance(thing, int):
            return dice.choice((thing + 1, thing - 1, 0, 1, 2, 3, 4, bool(thing), None, "0"))
        return dice.choice((None, True, 0, "a", "ahead", (), [], ("ahead",), (("told", 0),), "told", "cases", "both"))

    def agrees(self, talk, thing):
        wanted = refusal(talk, thing)
        if wanted is None:
            self.assertIs(lets_no(talk, thing), True)
            return True
        with self.assertRaises(NoPaper) as caught:
            lets_no(talk, thing)
        self.assertExactly((caught.exception.path, caught.exception.word), wanted)
        return False

    def test_papers_of_cases_and_what_is_nearly_one(self):
        dice = random.Random(30)
        let_by, refused = 0, 0
        while let_by < 60:
            found = self.tried(dice)
            if found is None:
                continue
            talk, paper = found
            self.assertTrue(self.agrees(talk, paper), paper)
            let_by += 1
            for at in range(25):
                refused += not self.agrees(talk, self.otherwise(dice, paper))
            if let_by % 6 == 0:
                for telling in all_tellings(talk[0], range(6)):
                    self.assertSays(False, keeps, talk, telling)
        self.assertGreater(refused, 700)

    def steps_by_dice(self, dice, talk, rows):
        things = talk[0]
        mays = [at for at, row in enumerate(rows) if len(row) == 3] or [0]
        gaps = [at for at, row in enumerate(rows) if len(row) == 4] or [0]
        x, y = [dice.choice([(name, number) for name, kind in things for number in ((0,) if kind == P else (0, 1))])
                for at in range(2)]
        return dice.choice((
            ("told", dice.randrange(len(talk[1]))), ("any", x[0], y[0]), ("long", x[0]), ("turned", dice.choice(mays)),
            ("behind", dice.choice(mays), dice.choice(mays)), ("both", dice.choice(mays), dice.choice(mays)),
            ("ends", dice.choice(mays), x, y), ("strike", dice.choice(mays), dice.choice(gaps)),
            ("add", dice.choice(gaps), dice.choice(gaps))))

    def test_what_is_let_by_no_telling_keeps(self):
        dice = random.Random(33)
        let_by = 0
        for at in range(500):
            things = some_things(dice, dice.randrange(2, 4))
            talk = (things, tuple(some_saying(dice, things) for at in range(dice.randrange(2, 7))))
            paper, rows = [], []
            while len(rows) < 40 and not (rows and is_fault_row(rows[-1])):
                step = self.steps_by_dice(dice, talk, rows)
                row = row_given(talk, rows, step)
                if row is not None:
                    paper.append(step)
                    rows.append(row)
            if self.agrees(talk, tuple(paper)):
                let_by += 1
                self.assertExactly(rows_of(talk, tuple(paper)), rows)
                for telling in itertools.islice(all_tellings(things, range(5)), 400):
                    self.assertSays(False, keeps, talk, telling)
                    self.assertFalse(all(is_row_so(things, telling, saying[1:]) for saying in talk[1]))
        self.assertGreater(let_by, 40)


if __name__ == "__main__":
    unittest.main()
