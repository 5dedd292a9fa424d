"""Points 70 to 72: parts of talks, papers of least clashes and their checker, and a least clash told."""

import copy
import itertools
import random
import unittest

from whens.errors import NoClash
from whens.judging import judged
from whens.least import least_clash, lets_clash, part
from whens.tellings import is_telling

from hard_talks import hard_talks
from layouts import ODD, Case
from oracle import is_row_so, refusal, some_gap_saying, some_may_saying, some_talk, some_things
from rings import can_be_kept
from sought_talks import near_talk, packed_talks, unlike_points

P, S = "point", "stretch"
THINGS = (("a", P), ("b", P), ("c", P))
A, B, C = ("a", 0), ("b", 0), ("c", 0)
# 0, 2 and 4 clash; 1 and 3 are nothing to them.
TALK = (THINGS, (("may", "a", "b", ("ahead",)), ("may", "a", "c", ("ahead", "same", "behind")),
                 ("gap", B, C, (0, 1), False), ("gap", C, B, (9, 1), True), ("gap", C, A, (0, 1), False)))
NUMBERS = (0, 2, 4)
PAPER = (("told", 0), ("ends", 0, A, B), ("told", 1), ("told", 2), ("add", 1, 2), ("add", 4, 3))
TELLINGS = (((0, 1), (0, 1), (0, 1)), ((0, 1), (5, 1), (-1, 1)), ((0, 1), (1, 1), (1, 1)))
CLASH = (NUMBERS, PAPER, TELLINGS)


def part_laid(talk, numbers):
    return (talk[0], tuple(talk[1][number] for number in numbers))


class Parts(Case):
    def test_parts(self):
        before = copy.deepcopy(TALK)
        self.assertExactly(part(TALK, ()), (THINGS, ()))
        self.assertExactly(part(TALK, (0, 1, 2, 3, 4)), TALK)
        for many in range(6):
            for numbers in itertools.combinations(range(5), many):
                self.assertExactly(part(TALK, numbers), (THINGS, tuple(TALK[1][number] for number in numbers)))
        self.assertExactly(TALK, before)
        self.assertExactly(part(((("a", S),), ()), ()), ((("a", S),), ()))

    def test_alike_sayings(self):
        talk = (THINGS, TALK[1][:1] * 3 + TALK[1][4:])
        self.assertExactly(part(talk, (0, 2)), (THINGS, TALK[1][:1] * 2))
        self.assertExactly(part(talk, (1, 3)), (THINGS, (TALK[1][0], TALK[1][4])))


class Lets(Case):
    def refused(self, word, number, talk, thing):
        before = copy.deepcopy((talk, thing))
        with self.assertRaises(NoClash) as caught:
            lets_clash(talk, thing)
        self.assertExactly((caught.exception.word, caught.exception.number), (word, number))
        self.assertExactly((talk, thing), before)

    def test_let_by(self):
        self.assertSays(True, lets_clash, TALK, CLASH)
        alone = ((("a", S),), (("gap", ("a", 1), ("a", 0), (0, 1), False),))
        paper = (("long", "a"), ("told", 0), ("add", 0, 1))
        self.assertSays(True, lets_clash, alone, ((0,), paper, ((((0, 1), (1, 1)),),)))

    def test_shapes(self):
        for thing in (None, (), CLASH[:2], CLASH + (None,), list(CLASH), (list(NUMBERS), PAPER, TELLINGS),
                      (NUMBERS, PAPER, list(TELLINGS)), (NUMBERS, PAPER, TELLINGS[:2]),
                      (NUMBERS, PAPER, TELLINGS + TELLINGS[:1]), ((0, 4, 2), PAPER, TELLINGS),
                      ((0, 2, 2), PAPER, TELLINGS), ((0, 2, 5), PAPER, TELLINGS), ((-1, 2, 4), PAPER, TELLINGS),
                      ((False, 2, 4), PAPER, TELLINGS), ((0, 2, "4"), PAPER, TELLINGS), ((0, 2, None), PAPER, TELLINGS),
                      ((0, True, 4), PAPER, TELLINGS), ((0, (2,), 4), PAPER, TELLINGS), ((0, [2], 4), PAPER, TELLINGS),
                      ((0, 2), PAPER, TELLINGS), ((4, 2, 0), PAPER, TELLINGS), (None, PAPER, TELLINGS),
                      (NUMBERS, PAPER, None), (0, PAPER, TELLINGS), ((), PAPER, TELLINGS), ((), PAPER, [])):
            self.refused("shape", 0, TALK, thing)
            if isinstance(thing, tuple) and len(thing) == 3:
                # Ahead of the paper's and the tellings' refusals.
                self.refused("shape", 0, TALK, (thing[0], None, thing[2]))
        for thing in ODD:
            self.refused("shape", 0, TALK, thing)
            self.refused("shape", 0, TALK, (thing, PAPER, TELLINGS))
            if not isinstance(thing, tuple) or len(thing) != 3:
                self.refused("shape", 0, TALK, (NUMBERS, PAPER, thing))

    def test_papers(self):
        for paper in (None, (), list(PAPER), PAPER[:-1], PAPER[1:], PAPER + PAPER[:1], (("told", 3),),
                      (("told", False),) + PAPER[1:], TELLINGS):
            self.refused("paper", 0, TALK, (NUMBERS, paper, TELLINGS))
            # Ahead of the tellings' refusals.
            self.refused("paper", 0, TALK, (NUMBERS, paper, (None, None, None)))
        for thing in ODD:
            self.refused("paper", 0, TALK, (NUMBERS, thing, TELLINGS))
        # One that tells the talk's own numbers, not the part's, is none of the part.
        whole = (("told", 0), ("ends", 0, A, B), ("told", 2), ("told", 4), ("add", 1, 2), ("add", 4, 3))
        self.assertIsNone(refusal(TALK, whole))
        self.refused("paper", 0, TALK, (NUMBERS, whole, TELLINGS))
        self.refused("paper", 0, TALK, ((), PAPER, ()))
        self.refused("paper", 0, TALK, ((0, 2), PAPER, TELLINGS[:2]))
        self.refused("paper", 0, (THINGS, TALK[1][:4] + (("gap", C, A, (1, 1), False),)), CLASH)

    def test_kept(self):
        for at in range(3):
            for telling in (None, (), TELLINGS[(at + 1) % 3], list(TELLINGS[at]), TELLINGS[at][:2],
                            TELLINGS[at] + ((0, 1),), ([0, 1],) + TELLINGS[at][1:], ((False, 1),) + TELLINGS[at][1:],
                            ((0, 2),) + TELLINGS[at][1:], PAPER):
                tellings = TELLINGS[:at] + (telling,) + TELLINGS[at + 1:]
                self.refused("kept", at, TALK, (NUMBERS, PAPER, tellings))
                # The least one is told where there are more.
                self.refused("kept", at, TALK, (NUMBERS, PAPER, TELLINGS[:at] + (telling,) + (None,) * (2 - at)))
            for thing in ODD:
                self.refused("kept", at, TALK, (NUMBERS, PAPER, TELLINGS[:at] + (thing,) + TELLINGS[at + 1:]))

    def test_clashes_that_are_not_least(self):
        # Number 3 may be struck: no telling keeps the others.
        paper = tuple({("told", 1): ("told", 1), ("told", 2): ("told", 3)}.get(step, step) for step in PAPER)
        wide = (0, 2, 3, 4)
        self.assertIsNone(refusal(part_laid(TALK, wide), paper))
        tellings = (TELLINGS[0], TELLINGS[1], TELLINGS[1], TELLINGS[2])
        self.refused("kept", 2, TALK, (wide, paper, tellings))

    def test_forty_sayings(self):
        talk = (THINGS, TALK[1] + (("may", "b", "c", ("ahead", "same", "behind")),) * 35)
        self.assertSays(True, lets_clash, talk, CLASH)
        late = (THINGS, talk[1][5:] + TALK[1])
        self.assertSays(True, lets_clash, late, ((35, 37, 39), PAPER, TELLINGS))
        self.refused("shape", 0, late, ((35, 37, 40), PAPER, TELLINGS))


class Least(Case):
    def look(self, talk):
        """Looks at what is told by the test's own reckoning; the numbers, or None of a yes."""
        before = copy.deepcopy(talk)
        found = least_clash(talk)
        self.assertExactly(talk, before)
        self.assertIs(type(found), tuple)
        if found[0] == "yes":
            self.assertEqual(len(found), 2)
            self.assertIs(is_telling(talk[0], found[1]), True)
            self.assertTrue(all(is_row_so(talk[0], found[1], saying[1:]) for saying in talk[1]))
            return None
        word, numbers, paper, tellings = found
        self.assertEqual(word, "clash")
        self.assertSays(True, lets_clash, talk, found[1:])
        self.assertIsNone(refusal(part_laid(talk, numbers), paper))
        self.assertEqual(len(numbers), len(tellings))
        for at, telling in enumerate(tellings):
            self.assertIs(is_telling(talk[0], telling), True)
            others = [talk[1][number] for number in numbers[:at] + numbers[at + 1:]]
            self.assertTrue(all(is_row_so(talk[0], telling, saying[1:]) for saying in others))
        return numbers

    def test_written_out(self):
        self.assertExactly(self.look(TALK), NUMBERS)
        self.assertIsNone(self.look((THINGS, TALK[1][:4])))
        self.assertIsNone(self.look((THINGS, ())))
        self.assertIsNone(self.look(((("a", P),), ())))

    def test_one_saying(self):
        talk = ((("a", S),), (("gap", ("a", 1), ("a", 0), (5, 1), True), ("gap", ("a", 1), ("a", 0), (0, 1), True)))
        self.assertExactly(self.look(talk), (1,))

    def test_alike_sayings(self):
        # Either of two alike ones, and never both.
        talk = (THINGS, TALK[1][:1] * 2 + TALK[1][2:3] * 2 + TALK[1][4:] * 2)
        numbers = self.look(talk)
        self.assertEqual(len(numbers), 3)
        self.assertEqual({talk[1][number] for number in numbers}, {TALK[1][0], TALK[1][2], TALK[1][4]})

    def test_against_all_choices(self):
        dice = random.Random(70)
        told = {"yes": 0, "no": 0}
        for at in range(150):
            many = dice.choice((1, 2, 3, 4))
            talk = near_talk(dice, many, dice.randrange(8), dice.randrange(8), dice.choice((2, 5, 9)), 0.4)
            numbers = self.look(talk)
            self.assertEqual(numbers is None, can_be_kept(talk))
            told["yes" if numbers is None else "no"] += 1
            if numbers is not None:
                self.assertFalse(can_be_kept(part_laid(talk, numbers)))
                for number in numbers:
                    others = tuple(other for other in numbers if other != number)
                    self.assertTrue(can_be_kept(part_laid(talk, others)))
        self.assertGreater(min(told.values()), 40)

    def test_five_things(self):
        for talk in hard_talks():
            self.assertIsNotNone(self.look(talk))
        for talk, can in packed_talks():
            self.assertEqual(self.look(talk) is None, can)
        self.assertIsNotNone(self.look(unlike_points()))

    def test_twenty_four_sayings(self):
        dice = random.Random(701)
        sizes = set()
        for at in range(40):
            things = some_things(dice, 5)
            sayings = [some_may_saying(dice, things, dice.choice((6, 12))) for place in range(14)]
            sayings += [some_gap_saying(dice, things) for place in range(10)]
            dice.shuffle(sayings)
            numbers = self.look((things, tuple(sayings)))
            sizes.add(0 if numbers is None else len(numbers))
        self.assertGreater(len(sizes), 3)

    def test_just_one_of_both(self):
        dice = random.Random(702)
        for at in range(60):
            talk = some_talk(dice, some_things(dice, dice.randrange(2, 6)), dice.randrange(7), dice.randrange(7))
            self.assertEqual(least_clash(talk)[0], "yes" if judged(talk)[0] == "yes" else "clash")


if __name__ == "__main__":
    unittest.main()
