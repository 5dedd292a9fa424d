"""Points 32 and 33: papers laid behind rows that stand, and retold for sayings at other numbers."""

import copy
import random
import unittest

from whens.checker import lets_no
from whens.closing import closed
from whens.errors import NoPaper
from whens.papers import laid_behind, retold

from layouts import Case
from oracle import refusal, some_gap_saying, some_may_saying, some_talk, some_things

P, S = "point", "stretch"
THINGS = (("a", P), ("b", P), ("c", P), ("s", S))

# Each step that has numbers of rows, and with how many rows behind.
WITH_ROWS = (
    (("turned", 0), ("turned", 5)),
    (("behind", 0, 1), ("behind", 5, 6)),
    (("behind", 3, 2), ("behind", 8, 7)),
    (("both", 2, 0), ("both", 7, 5)),
    (("ends", 1, ("s", 1), ("a", 0)), ("ends", 6, ("s", 1), ("a", 0))),
    (("ends", 0, ("b", 0), ("s", 0)), ("ends", 5, ("b", 0), ("s", 0))),
    (("strike", 0, 4), ("strike", 5, 9)),
    (("add", 11, 3), ("add", 16, 8)),
    (("cases", 2, ((("ahead",), ()),)), ("cases", 7, ((("ahead",), ()),))),
)
WITHOUT_ROWS = (("told", 0), ("told", 7), ("any", "a", "s"), ("any", "s", "b"), ("long", "s"))

TRIED = (THINGS, (("may", "a", "b", ("ahead", "same")), ("may", "b", "c", ("ahead", "same")),
                  ("may", "a", "c", ("behind",))))
LAST = (("behind", 3, 4), ("told", 2), ("both", 5, 6))
SECOND = (("cases", 1, ((("ahead",), LAST), (("same",), LAST))),)
CASES = (("told", 0), ("told", 1), ("told", 2), ("cases", 0, ((("ahead",), SECOND), (("same",), SECOND))))

MIXED = (THINGS, (("may", "s", "a", ("holds", "begun")), ("gap", ("a", 0), ("b", 0), (-1, 2), False),
                  ("gap", ("b", 0), ("s", 0), (1, 3), True), ("may", "b", "a", ("behind",))))
MIXED_PAPER = (("long", "s"), ("told", 0), ("ends", 1, ("s", 0), ("a", 0)), ("told", 1), ("told", 2),
               ("add", 3, 4), ("add", 5, 2))
STRUCK = (THINGS, (("may", "a", "b", ("ahead",)), ("gap", ("b", 0), ("a", 0), (0, 1), False)))
STRUCK_PAPER = (("any", "b", "a"), ("told", 0), ("turned", 1), ("both", 0, 2), ("told", 1), ("turned", 3),
                ("strike", 5, 4))
LET_BY = ((TRIED, CASES), (STRUCK, STRUCK_PAPER), (MIXED, MIXED_PAPER))


def stood(many):
    """So many steps that give rows of whatever else."""
    return (("any", "c", "s"), ("long", "s"), ("any", "b", "c"))[:many] + (("any", "c", "b"),) * (many - 3)


class LaidBehind(Case):
    def test_each_step(self):
        for step, laid in WITH_ROWS:
            self.assertExactly(laid_behind((step,), 5), (laid,))
            self.assertExactly(laid_behind((step,), 0), (step,))
        for step in WITHOUT_ROWS:
            self.assertExactly(laid_behind((step,), 5), (step,))
        every = tuple(step for step, laid in WITH_ROWS) + WITHOUT_ROWS
        self.assertExactly(laid_behind(every, 5), tuple(laid for step, laid in WITH_ROWS) + WITHOUT_ROWS)
        self.assertExactly(laid_behind((), 5), ())

    def test_cases_within_cases(self):
        last = (("behind", 10, 11), ("told", 2), ("both", 12, 13))
        second = (("cases", 8, ((("ahead",), last), (("same",), last))),)
        self.assertExactly(laid_behind(CASES, 7), CASES[:3] + (
            ("cases", 7, ((("ahead",), second), (("same",), second))),))

    def test_many_rows(self):
        self.assertExactly(laid_behind((("both", 0, 1), ("turned", 2)), 10 ** 30),
                           (("both", 10 ** 30, 10 ** 30 + 1), ("turned", 10 ** 30 + 2)))

    def test_no_rows(self):
        for talk, paper in LET_BY:
            self.assertExactly(laid_behind(paper, 0), paper)

    def test_behind_some_and_behind_more_is_behind_all(self):
        for talk, paper in LET_BY:
            self.assertExactly(laid_behind(laid_behind(paper, 3), 4), laid_behind(paper, 7))

    def test_shut_wherever_so_many_rows_stand(self):
        for talk, paper in LET_BY:
            self.assertIs(lets_no(talk, paper), True)
            for many in (0, 1, 2, 3, 9):
                whole = stood(many) + laid_behind(paper, many)
                self.assertIs(lets_no(talk, whole), True)
                self.assertIsNone(refusal(talk, whole))

    def test_shut_within_cases(self):
        parts = tuple(((word,), laid_behind(CASES, 2)) for word in ("ahead", "same", "behind"))
        self.assertIs(lets_no(TRIED, (("any", "b", "a"), ("cases", 0, parts))), True)

    def test_eleven_cases_around_two_are_too_many(self):
        def around(many):
            paper = laid_behind(CASES, many + 1)
            for at in range(many):
                paper = (("cases", 0, ((("ahead", "same", "behind"), paper),)),)
            return (("any", "b", "a"),) + paper
        self.assertIs(lets_no(TRIED, around(10)), True)
        with self.assertRaises(NoPaper) as caught:
            lets_no(TRIED, around(11))
        self.assertEqual(caught.exception.word, "step")


class Retold(Case):
    def test_each_step(self):
        numbers = (4, 9, 9, 0, 3, 5, 6, 1)
        for step, laid in WITH_ROWS:
            self.assertExactly(retold((step,), numbers), (step,))
        for step in WITHOUT_ROWS[2:]:
            self.assertExactly(retold((step,), numbers), (step,))
        for number in range(8):
            self.assertExactly(retold((("told", number),), numbers), (("told", numbers[number]),))
        self.assertExactly(retold((), ()), ())
        self.assertExactly(retold((), (3,)), ())

    def test_cases_within_cases(self):
        last = (("behind", 3, 4), ("told", 0), ("both", 5, 6))
        second = (("cases", 1, ((("ahead",), last), (("same",), last))),)
        self.assertExactly(retold(CASES, (7, 5, 0)), (
            ("told", 7), ("told", 5), ("told", 0), ("cases", 0, ((("ahead",), second), (("same",), second)))))

    def test_numbers_as_they_were(self):
        for talk, paper in LET_BY:
            self.assertExactly(retold(paper, (0, 1, 2, 3)), paper)

    def test_let_by_for_sayings_at_other_numbers(self):
        filler = (("may", "s", "c", ("ahead",)), ("gap", ("c", 0), ("s", 1), (5, 1), False))
        for talk, paper in LET_BY:
            things, sayings = talk
            turned = (things, filler + sayings[::-1])
            numbers = tuple(len(turned[1]) - 1 - at for at in range(len(sayings)))
            self.assertIs(lets_no(turned, retold(paper, numbers)), True)
            with self.assertRaises(NoPaper):
                lets_no(turned, paper)

    def test_let_by_for_talks_with_more_behind(self):
        for talk, paper in LET_BY:
            self.assertIs(lets_no((talk[0], talk[1] + MIXED[1]), paper), True)


class Both(Case):
    def test_papers_that_were_told(self):
        dice = random.Random(32)
        seen = 0
        while seen < 60:
            things = some_things(dice, dice.randrange(2, 7))
            talk = some_talk(dice, things, dice.randrange(2, 12), dice.randrange(3), 5)
            word, paper = closed(talk)
            if word == "table":
                continue
            seen += 1
            many = dice.randrange(6)
            ahead = tuple(("any", things[0][0], things[1][0]) for at in range(many))
            self.assertIs(lets_no(talk, ahead + laid_behind(paper, many)), True)
            places = dice.sample(range(20), len(talk[1]))
            sayings = [some_gap_saying(dice, things) if dice.random() < 0.5 else some_may_saying(dice, things, 5)
                       for at in range(20)]
            for at, place in enumerate(places):
                sayings[place] = talk[1][at]
            other = (things, tuple(sayings))
            self.assertIs(lets_no(other, retold(paper, tuple(places))), True)
            self.assertIs(lets_no(other, ahead + laid_behind(retold(paper, tuple(places)), many)), True)
            self.assertExactly(laid_behind(retold(paper, tuple(places)), many),
                               retold(laid_behind(paper, many), tuple(places)))

    def test_what_is_handed_in_is_as_it_was(self):
        for talk, paper in LET_BY:
            before = copy.deepcopy(paper)
            numbers = (3, 2, 1, 0)
            laid_behind(paper, 4)
            retold(paper, numbers)
            self.assertExactly(paper, before)
            self.assertExactly(numbers, (3, 2, 1, 0))


if __name__ == "__main__":
    unittest.main()
