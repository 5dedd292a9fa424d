"""Point 20: what is a talk, and which tellings keep it."""

import random
import unittest

from whens.talks import broken, is_so, is_talk, keeps

from layouts import ODD, ORDER, WORDS, Case
from oracle import is_row_so, some_saying, some_telling, some_things

P, S = "point", "stretch"
THINGS = (("p", P), ("q", P), ("s", S), ("t", S))
MAY = ("may", "p", "s", ("ahead", "within"))
GAP = ("gap", ("s", 1), ("p", 0), (3, 2), True)


def one_said(saying):
    return (THINGS, (saying,))


class IsTalk(Case):
    def test_talks(self):
        for talk in ((THINGS, ()), (THINGS, (MAY, GAP)), ((("a", P),), ()), (THINGS, (MAY,) * 24),
                     ((("a", S),), (("gap", ("a", 1), ("a", 0), (5, 1), False),)),
                     (THINGS, (GAP, MAY, GAP))):
            self.assertSays(True, is_talk, talk)

    def test_sayings_in_either_order_of_things(self):
        for a, one in THINGS:
            for b, other in THINGS:
                if a == b:
                    self.assertSays(False, is_talk, one_said(("may", a, b, ("same",))))
                    continue
                for word in ORDER:
                    self.assertSays(word in WORDS[one, other], is_talk, one_said(("may", a, b, (word,))))
                self.assertSays(True, is_talk, one_said(("may", a, b, WORDS[one, other])))
                self.assertSays(False, is_talk, one_said(("may", a, b, WORDS[one, other][::-1])))

    def test_some_talks(self):
        dice = random.Random(20)
        for at in range(200):
            things = some_things(dice, dice.randrange(2, 7))
            self.assertSays(True, is_talk, (things, tuple(some_saying(dice, things) for at in range(dice.randrange(25)))))

    def test_at_most_twenty_four_sayings(self):
        for many in (25, 26, 40):
            self.assertSays(False, is_talk, (THINGS, (MAY,) * many))

    def test_may_sayings_that_are_none(self):
        for thing in (("may", "p", "s", ()), ("may", "p", "s", ["ahead"]), ["may", "p", "s", ("ahead",)],
                      ("may", "p", "s"), ("may", "p", "s", ("ahead",), True), ("may", "p", "x", ("ahead",)),
                      ("may", "x", "p", ("ahead",)), ("may", "p", "p", ("same",)), ("may", ("p", 0), "s", ("ahead",)),
                      ("may", "p", "s", "ahead"), ("may", "p", "s", ("within", "ahead")), ("may", "p", "s", ("met",)),
                      ("may", "p", "s", ("ahead", "ahead")), ("may", None, "s", ("ahead",)), ("may", "p", [], ("ahead",)),
                      ("may", "p", "s", ("ahead", True)), ("may", "p", "s", None), ("May", "p", "s", ("ahead",)),
                      ("p", "s", ("ahead",)), ("mays", "p", "s", ("ahead",)), ("gap", "p", "s", ("ahead",)), ("may",),
                      (None, "p", "s", ("ahead",)), (["may"], "p", "s", ("ahead",)), (True, "p", "s", ("ahead",))):
            self.assertSays(False, is_talk, one_said(thing))

    def test_gap_sayings_that_are_none(self):
        word, x, y, number, strict = GAP
        for thing in ((word, x, x, number, strict), (word, x, y, number), (word, x, y, number, strict, True),
                      [word, x, y, number, strict], ("may", x, y, number, strict), (word, y, y, (0, 1), False), (word,),
                      ("Gap", x, y, number, strict), (None, x, y, number, strict), (x, y, number, strict)):
            self.assertSays(False, is_talk, one_said(thing))
        for end in (("p", 1), ("p", True), ("s", True), ("s", False), ("s", 2), ("s", -1), ("x", 0), "s", ("s",), ["s", 0],
                    ("s", 0, 0), ("s", "0"), ("s", None), (None, 0), (("s",), 0), (0, "s"), None, True, (), ("q", -1)):
            self.assertSays(False, is_talk, one_said((word, end, y, number, strict)))
            self.assertSays(False, is_talk, one_said((word, ("t", 0), end, number, strict)))
        for other in ((2, 4), (0, 2), (1, 0), (1, -1), (True, 1), (1, True), [1, 2], 1, None, "1", (1, 2, 3), ()):
            self.assertSays(False, is_talk, one_said((word, x, y, other, strict)))
        for other in (0, 1, None, "True", "", (), [], "strict"):
            self.assertSays(False, is_talk, one_said((word, x, y, number, other)))

    def test_both_ends_of_points_and_stretches(self):
        ends = [("p", 0), ("q", 0), ("s", 0), ("s", 1), ("t", 0), ("t", 1)]
        for x in ends:
            for y in ends:
                for strict in (True, False):
                    self.assertSays(x != y, is_talk, one_said(("gap", x, y, (-10 ** 39, 7), strict)))

    def test_parts(self):
        for thing in ([THINGS, ()], (THINGS,), (THINGS, (), ()), (THINGS, []), (THINGS, [MAY]), (list(THINGS), ()), ((), ()),
                      ((("b", P), ("a", P)), ()), (THINGS, MAY), (THINGS, None), (None, ()), (THINGS, True), ((), THINGS),
                      (THINGS, (MAY, None)), (THINGS, (MAY, ())), (THINGS, (MAY, "may")), (THINGS, ((MAY,),)), ()):
            self.assertSays(False, is_talk, thing)

    def test_plain_things_of_all_sorts(self):
        for thing in ODD:
            self.assertSays(False, is_talk, thing)
            self.assertSays(False, is_talk, (THINGS, thing))
            self.assertSays(False, is_talk, (thing, ()))
            self.assertSays(False, is_talk, one_said(thing))


class Kept(Case):
    telling = ((1, 2), (4, 3), ((1, 3), (3, 2)), ((4, 3), (2, 1)))

    def test_gaps_just_met_missed_and_strict(self):
        # q's time less p's is 5/6.
        for number, kept, strictly in (((5, 6), True, False), ((1, 1), True, True), ((4, 5), False, False),
                                       ((833332, 999999), False, False), ((833333, 999999), True, True)):
            self.assertSays(kept, is_so, THINGS, ("gap", ("q", 0), ("p", 0), number, False), self.telling)
            self.assertSays(strictly, is_so, THINGS, ("gap", ("q", 0), ("p", 0), number, True), self.telling)
        for number, kept, strictly in (((-5, 6), True, False), ((-1, 1), False, False), ((0, 1), True, True)):
            self.assertSays(kept, is_so, THINGS, ("gap", ("p", 0), ("q", 0), number, False), self.telling)
            self.assertSays(strictly, is_so, THINGS, ("gap", ("p", 0), ("q", 0), number, True), self.telling)
        self.assertSays(True, is_so, THINGS, ("gap", ("t", 0), ("q", 0), (0, 1), False), self.telling)
        self.assertSays(False, is_so, THINGS, ("gap", ("t", 0), ("q", 0), (0, 1), True), self.telling)

    def test_the_right_end_is_taken(self):
        for x, y, apart in ((("s", 1), ("s", 0), (7, 6)), (("s", 0), ("s", 1), (-7, 6)), (("t", 1), ("p", 0), (3, 2)),
                            (("p", 0), ("t", 0), (-5, 6)), (("t", 1), ("s", 0), (5, 3)), (("s", 1), ("t", 0), (1, 6))):
            self.assertSays(True, is_so, THINGS, ("gap", x, y, apart, False), self.telling)
            self.assertSays(False, is_so, THINGS, ("gap", x, y, apart, True), self.telling)

    def test_mays_in_either_order(self):
        self.assertSays(True, is_so, THINGS, ("may", "s", "t", ("ahead", "overlaps")), self.telling)
        self.assertSays(False, is_so, THINGS, ("may", "t", "s", ("ahead", "overlaps")), self.telling)
        self.assertSays(True, is_so, THINGS, ("may", "t", "s", ("lapped", "behind")), self.telling)
        self.assertSays(True, is_so, THINGS, ("may", "t", "q", ("begun",)), self.telling)
        self.assertSays(False, is_so, THINGS, ("may", "q", "t", ("within",)), self.telling)

    def test_broken_and_keeps(self):
        sayings = (("may", "p", "q", ("behind",)), ("may", "p", "q", ("ahead",)), GAP, MAY,
                   ("gap", ("s", 1), ("p", 0), (1, 1), True), ("gap", ("s", 1), ("p", 0), (1, 1), False))
        self.assertExactly(broken((THINGS, sayings), self.telling), [0, 4])
        self.assertSays(False, keeps, (THINGS, sayings), self.telling)
        self.assertExactly(broken((THINGS, sayings[1:4]), self.telling), [])
        self.assertSays(True, keeps, (THINGS, sayings[1:4]), self.telling)
        self.assertSays(True, keeps, (THINGS, ()), self.telling)
        self.assertExactly(broken((THINGS, sayings[:1] * 40), self.telling), list(range(40)))
        self.assertExactly(broken((THINGS, sayings[1:2] * 39 + sayings[:1]), self.telling), [39])

    def test_against_times_laid_out(self):
        dice = random.Random(21)
        kept = 0
        for at in range(400):
            things = some_things(dice, dice.randrange(2, 7))
            sayings = tuple(some_saying(dice, things) for at in range(dice.choice((0, 1, 2, 3, 24, 40))))
            telling = some_telling(dice, things)
            wanted = [number for number, saying in enumerate(sayings) if not is_row_so(things, telling, saying[1:])]
            self.assertExactly(broken((things, sayings), telling), wanted)
            self.assertSays(not wanted, keeps, (things, sayings), telling)
            for number, saying in enumerate(sayings):
                self.assertSays(number not in wanted, is_so, things, saying, telling)
            kept += not wanted
        self.assertGreater(kept, 20)

    def test_the_list_is_the_askers_own(self):
        talk = (THINGS, (("may", "p", "q", ("behind",)),))
        first = broken(talk, self.telling)
        first.append(7)
        self.assertExactly(broken(talk, self.telling), [0])


if __name__ == "__main__":
    unittest.main()
