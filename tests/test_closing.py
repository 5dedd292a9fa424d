"""Points 36, 37, 38: the greatest closed table of a talk, or a paper that shows that there is none."""

import copy
import itertools
import random
import unittest

from whens.checker import lets_no
from whens.closing import closed
from whens.tables import as_talk, is_closed, within

from layouts import TURNED, WORDS, Case
from oracle import (
    closed_laid, fitting, in_order, kept_talk, refusal, some_gap_saying, some_may_saying, some_talk, some_telling,
    some_things, word_in,
)

P, S = "point", "stretch"
STRETCHES = (("a", S), ("b", S), ("c", S))
POINTS = (("a", P), ("b", P), ("c", P))


def all_words(things):
    return tuple((a, b, WORDS[k, l]) for (a, k), (b, l) in itertools.combinations(things, 2))


def turned_saying(saying):
    """A may saying with its names and words turned about; others as they are."""
    if saying[0] == "gap":
        return saying
    return ("may", saying[2], saying[1], in_order([TURNED[word] for word in saying[3]]))


def some_mixed(dice, most=6, words=13):
    """A talk of one to so many things, sayings of both kinds."""
    things = some_things(dice, dice.randrange(1, most + 1))
    if len(things) == 1:
        if things[0][1] == P:
            return (things, ())
        return (things, tuple(some_gap_saying(dice, things) for at in range(dice.randrange(3))))
    make = dice.choice((some_talk, kept_talk))
    return make(dice, things, dice.randrange(22), dice.randrange(4), words)


class Tables(Case):
    def closes(self, talk, table):
        self.assertExactly(closed(talk), ("table", table))
        self.assertEqual(closed_laid(talk), table)

    def test_one_thing(self):
        for kind in (P, S):
            self.closes(((("a", kind),), ()), ())
        self.closes(((("a", S),), (("gap", ("a", 1), ("a", 0), (-1, 1), False),)), ())

    def test_nothing_said(self):
        dice = random.Random(37)
        for many in range(2, 7):
            things = some_things(dice, many)
            self.closes((things, ()), all_words(things))
            gaps = tuple(some_gap_saying(dice, things) for at in range(24))
            self.closes((things, gaps), all_words(things))

    def test_two_things(self):
        for kinds in WORDS:
            things = (("a", kinds[0]), ("b", kinds[1]))
            for words in (WORDS[kinds][:1], WORDS[kinds][-2:], WORDS[kinds][1:]):
                self.closes((things, (("may", "a", "b", words),)), (("a", "b", words),))
                turned = in_order([TURNED[word] for word in words])
                self.closes((things, (("may", "b", "a", turned),)), (("a", "b", words),))
            self.closes((things, (("may", "a", "b", WORDS[kinds][:2]), ("may", "a", "b", WORDS[kinds][1:]))),
                        (("a", "b", WORDS[kinds][1:2]),))

    def test_what_comes_through_a_third(self):
        self.closes((STRETCHES, (("may", "a", "b", ("meets",)), ("may", "b", "c", ("met",)))),
                    (("a", "b", ("meets",)), ("a", "c", ("ends", "same", "ended")), ("b", "c", ("met",))))
        self.closes((POINTS, (("may", "b", "a", ("ahead",)), ("may", "b", "c", ("same", "behind")))),
                    (("a", "b", ("behind",)), ("a", "c", ("behind",)), ("b", "c", ("same", "behind"))))

    def test_a_row_of_six(self):
        for kind, word in ((P, "ahead"), (S, "meets"), (S, "within")):
            things = tuple((name, kind) for name in "abcdef")
            talk = (things, tuple(("may", a, b, (word,)) for a, b in zip("abcde", "bcdef")))
            far = "ahead" if word == "meets" else word
            self.closes(talk, tuple((a, b, (word if ord(b) - ord(a) == 1 else far,))
                                    for a, b in itertools.combinations("abcdef", 2)))

    def test_against_the_tests_own_closing(self):
        dice = random.Random(371)
        told = {"table": 0, "clash": 0}
        for at in range(150):
            talk = some_mixed(dice, dice.choice((3, 4, 6)), dice.choice((5, 9, 13)))
            word, found = closed(talk)
            told[word] += 1
            wanted = closed_laid(talk)
            if wanted is None:
                self.assertEqual(word, "clash", talk)
                self.assertIs(lets_no(talk, found), True)
            else:
                self.assertExactly((word, found), ("table", wanted))
                self.assertIs(is_closed(talk, found), True)
        self.assertGreater(min(told.values()), 30)

    def test_closed_though_no_telling_keeps_it(self):
        four = tuple((name, S) for name in "abcd")
        crossed = ("begins", "ends", "ended", "begun")
        talk = (four, (("may", "a", "b", ("meets", "overlaps")), ("may", "a", "c", crossed), ("may", "a", "d", crossed),
                       ("may", "b", "c", crossed), ("may", "b", "d", crossed), ("may", "c", "d", ("ends", "begun"))))
        self.assertEqual(list(fitting(talk)), [])
        self.assertEqual(closed(talk)[0], "table")
        self.closes(talk, closed_laid(talk))

    def test_has_all_words_of_tellings_that_keep_it(self):
        dice = random.Random(381)
        for at in range(80):
            things = some_things(dice, dice.randrange(2, 7))
            telling = some_telling(dice, things)
            sayings = []
            for part in range(dice.randrange(1, 20)):
                saying = some_may_saying(dice, things, 6)
                word = word_in(things, telling, saying[1], saying[2])
                sayings.append(saying[:3] + (in_order(saying[3] + (word,)),))
            word, table = closed((things, tuple(sayings)))
            self.assertEqual(word, "table")
            for a, b, words in table:
                self.assertIn(word_in(things, telling, a, b), words)


class Clashes(Case):
    def clashes(self, talk):
        word, paper = closed(talk)
        self.assertEqual(word, "clash")
        self.assertIs(lets_no(talk, paper), True)
        self.assertIsNone(refusal(talk, paper))
        return paper

    def test_two_things(self):
        for kinds in WORDS:
            things = (("a", kinds[0]), ("b", kinds[1]))
            words = WORDS[kinds]
            self.clashes((things, (("may", "a", "b", words[:1]), ("may", "a", "b", words[1:]))))
            self.clashes((things, (("may", "a", "b", words[:1]), ("may", "b", "a", words[:1]))))
            self.clashes((things, (("may", "b", "a", WORDS[kinds[::-1]][:-1]), ("may", "a", "b", words[:1]))))
            self.clashes((things, (("may", "a", "b", words[:2]), ("may", "a", "b", words[1:]),
                                   ("may", "b", "a", WORDS[kinds[::-1]][-1:]))))

    def test_three_points_round(self):
        for last in (("ahead",), ("same",), ("ahead", "same")):
            self.clashes((POINTS, (("may", "a", "b", ("ahead",)), ("may", "b", "c", ("ahead",)), ("may", "c", "a", last))))

    def test_six_things_round(self):
        for kind, word in ((P, "ahead"), (S, "meets"), (S, "within")):
            things = tuple((name, kind) for name in "abcdef")
            pairs = list(zip("abcdef", "bcdefa"))
            paper = self.clashes((things, tuple(("may", a, b, (word,)) for a, b in pairs)))
            self.assertLessEqual(len(paper), 24)

    def test_gaps_are_not_told(self):
        dice = random.Random(373)
        for at in range(40):
            gaps = tuple(some_gap_saying(dice, POINTS) for part in range(dice.randrange(1, 12)))
            cut = dice.randrange(len(gaps) + 1)
            round_ = (("may", "a", "b", ("ahead",)), ("may", "b", "c", ("ahead",)), ("may", "c", "a", ("ahead", "same")))
            talk = (POINTS, gaps[:cut] + round_ + gaps[cut:])
            paper = self.clashes(talk)
            for step in paper:
                if step[0] == "told":
                    self.assertEqual(talk[1][step[1]][0], "may")

    def test_twenty_four_sayings_of_six_stretches(self):
        dice = random.Random(372)
        things = tuple((name, S) for name in "abcdef")
        seen = 0
        while seen < 15:
            talk = some_talk(dice, things, 24, 0, 11)
            if closed_laid(talk) is None:
                seen += 1
                self.clashes(talk)


class Laws(Case):
    def test_a_closed_tables_own_talk_closes_to_it(self):
        dice = random.Random(38)
        seen = 0
        while seen < 60:
            talk = some_mixed(dice)
            word, table = closed(talk)
            if word == "table":
                seen += 1
                self.assertExactly(closed(as_talk(talk[0], table)), ("table", table))

    def test_with_a_saying_more_it_lies_within_or_clashes(self):
        dice = random.Random(382)
        seen = {"table": 0, "clash": 0}
        while min(seen.values()) < 25:
            things = some_things(dice, dice.randrange(2, 7))
            talk = kept_talk(dice, things, dice.randrange(12), dice.randrange(3), 7)
            word, table = closed(talk)
            self.assertEqual(word, "table")
            more = (things, talk[1] + (some_may_saying(dice, things, 4),))
            word, narrower = closed(more)
            seen[word] += 1
            if word == "table":
                self.assertIs(within(narrower, table), True)

    def test_order_and_turning_change_nothing(self):
        dice = random.Random(383)
        seen = {"table": 0, "clash": 0}
        while min(seen.values()) < 25:
            talk = some_mixed(dice, 6, 6)
            word, found = closed(talk)
            seen[word] += 1
            for at in range(3):
                sayings = [turned_saying(saying) if dice.random() < 0.5 else saying for saying in talk[1]]
                dice.shuffle(sayings)
                other, turned = closed((talk[0], tuple(sayings)))
                self.assertEqual(other, word)
                if word == "table":
                    self.assertExactly(turned, found)
                else:
                    self.assertIs(lets_no((talk[0], tuple(sayings)), turned), True)

    def test_nothing_handed_in_is_changed_and_nothing_hangs_on_what_was_asked(self):
        dice = random.Random(384)
        for at in range(20):
            talk = some_mixed(dice, 5, 6)
            before = copy.deepcopy(talk)
            first = closed(talk)
            self.assertExactly(talk, before)
            closed(some_mixed(dice, 5, 6))
            self.assertEqual(closed(talk)[0], first[0])
            if first[0] == "table":
                self.assertExactly(closed(talk), first)


class Beyond(Case):
    def test_forty_sayings(self):
        dice = random.Random(4)
        talk = kept_talk(dice, tuple((name, S) for name in "abcdef"), 40)
        self.assertExactly(closed(talk), ("table", closed_laid(talk)))


if __name__ == "__main__":
    unittest.main()
