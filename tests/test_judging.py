"""Points 60 to 63: talks of words and gaps judged, right answers, all full tables, and what two things can have."""

import copy
import itertools
import random
import unittest
from fractions import Fraction

from whens.checker import lets_no
from whens.deciding import decided
from whens.errors import TooMany
from whens.judging import can_have, full_tables, is_answer, judged, shown_have
from whens.tellings import is_telling
from whens.ways import ways

from hard_talks import hard_talks
from layouts import ODD, TURNED, WORDS, Case
from oracle import (
    fitting, in_order, is_row_so, kept_talk, refusal, some_gap_saying, some_talk, some_telling, some_things, table_laid,
)
from rings import can_be_kept, choices
from sought_talks import near_talk, packed_talk, packed_talks, unlike_points

P, S = "point", "stretch"
FOUR = (("a", S), ("b", S), ("c", S), ("d", S))
JUST_500 = (FOUR, (
    ("may", "b", "a", ("ahead", "meets", "within", "ends", "same", "ended")), ("gap", ("b", 0), ("c", 1), (-9, 1), True),
    ("may", "b", "c", ("within", "ends", "begun", "met")), ("gap", ("d", 0), ("a", 0), (2, 1), False),
    ("may", "a", "b", ("ahead", "meets", "overlaps", "begins", "within", "ends", "ended", "begun", "lapped"))))
JUST_501 = (FOUR, (
    ("gap", ("a", 1), ("c", 1), (4, 999999), False),
    ("may", "d", "b", ("ahead", "overlaps", "within", "ends", "ended", "holds", "begun", "met")),
    ("may", "a", "c", ("ahead", "overlaps", "ends", "same", "ended")), ("may", "b", "d", ("ahead", "behind")),
    ("gap", ("d", 1), ("c", 0), (-8, 1), True)))


def cases_deep(paper):
    """How many cases a paper has within one another."""
    if paper[-1][0] != "cases":
        return 0
    return 1 + max(cases_deep(inner) for words, inner in paper[-1][2])


def with_word(talk, a, b, word):
    return (talk[0], talk[1] + (("may", a, b, (word,)),))


def is_kept(talk, telling):
    return all(is_row_so(talk[0], telling, saying[1:]) for saying in talk[1])


class Look(Case):
    def is_right(self, talk, answer):
        """Looks at an answer, by itself and with is_answer; the word."""
        word, found = answer
        if word == "yes":
            self.assertIs(is_telling(talk[0], found), True)
            self.assertTrue(is_kept(talk, found), talk)
        else:
            self.assertEqual(word, "no")
            self.assertIs(lets_no(talk, found), True)
            self.assertIsNone(refusal(talk, found))
            self.assertLessEqual(cases_deep(found), 12)
        self.assertSays(True, is_answer, talk, answer)
        return word

    def look(self, talk):
        return self.is_right(talk, judged(talk))


class Judged(Look):
    def test_one_thing(self):
        for kind in (P, S):
            self.assertEqual(self.look(((("a", kind),), ())), "yes")
        long = ("gap", ("a", 0), ("a", 1), (-1, 3), False)
        for number, strict, word in (((1, 3), False, "yes"), ((1, 3), True, "no"), ((1, 2), True, "yes"),
                                     ((0, 1), False, "no"), ((-1, 1), False, "no"), ((333333, 999999 + 1), False, "no")):
            self.assertEqual(self.look(((("a", S),), (long, ("gap", ("a", 1), ("a", 0), number, strict)))), word)
        for number, strict, word in (((0, 1), False, "no"), ((0, 1), True, "no"), ((1, 999999), True, "yes")):
            self.assertEqual(self.look(((("a", S),), (("gap", ("a", 1), ("a", 0), number, strict),))), word)

    def test_two_points(self):
        things = (("a", P), ("b", P))
        x, y = ("a", 0), ("b", 0)
        for words, number, strict, word in (
                (("ahead",), (0, 1), True, "yes"), (("same",), (0, 1), True, "no"), (("same",), (0, 1), False, "yes"),
                (("behind",), (0, 1), False, "no"), (("behind",), (1, 9), True, "yes"), (("same",), (-1, 9), False, "no"),
                (("ahead",), (-1, 9), False, "yes"), (("ahead", "behind"), (0, 1), False, "yes"),
                (("same", "behind"), (0, 1), True, "no"), (("same", "behind"), (0, 1), False, "yes")):
            talk = (things, (("may", "a", "b", words), ("gap", x, y, number, strict)))
            self.assertEqual(self.look(talk), word, talk)
            turned = (things, (("gap", x, y, number, strict), ("may", "b", "a", in_order([TURNED[w] for w in words]))))
            self.assertEqual(self.look(turned), word, turned)

    def test_unlike_and_at_one_time(self):
        things = (("a", P), ("b", P))
        both = (("gap", ("a", 0), ("b", 0), (0, 1), False), ("gap", ("b", 0), ("a", 0), (0, 1), False))
        self.assertEqual(self.look((things, both)), "yes")
        self.assertEqual(self.look((things, both + (("may", "a", "b", ("ahead", "behind")),))), "no")
        self.assertEqual(self.look(unlike_points()), "no")
        self.assertEqual(self.look((unlike_points()[0], unlike_points()[1][:-1])), "yes")

    def test_each_word_with_each_gap(self):
        for kinds in WORDS:
            things = (("a", kinds[0]), ("b", kinds[1]))
            ends = [(name, number) for name, kind in things for number in ((0,) if kind == P else (0, 1))]
            for word in WORDS[kinds]:
                for x, y in itertools.permutations(ends, 2):
                    for number, strict in (((0, 1), False), ((0, 1), True), ((-1, 2), False), ((1, 2), True)):
                        talk = (things, (("gap", x, y, number, strict), ("may", "a", "b", (word,))))
                        self.assertEqual(self.look(talk), "yes" if can_be_kept(talk) else "no")

    def test_against_all_choices(self):
        dice = random.Random(60)
        told = {"yes": 0, "no": 0}
        for at in range(300):
            many = dice.choice((1, 2, 3, 3, 4))
            talk = near_talk(dice, many, dice.randrange(9), dice.randrange(9), dice.choice((2, 5, 13)), 0.5)
            word = "yes" if can_be_kept(talk) else "no"
            self.assertEqual(self.look(talk), word, talk)
            told[word] += 1
        self.assertGreater(min(told.values()), 60)

    def test_five_things_against_all_choices(self):
        dice = random.Random(601)
        told = {"yes": 0, "no": 0}
        for at in range(60):
            talk = near_talk(dice, 5, dice.randrange(4, 14), dice.randrange(1, 11), dice.choice((3, 5)), 0.5)
            word = "yes" if can_be_kept(talk) else "no"
            self.assertEqual(self.look(talk), word, talk)
            told[word] += 1
        self.assertGreater(min(told.values()), 12)

    def test_words_alone(self):
        dice = random.Random(602)
        told = {"yes": 0, "no": 0}
        for at in range(100):
            talk = some_talk(dice, some_things(dice, dice.randrange(2, 6)), dice.randrange(1, 16), 0, dice.choice((3, 6)))
            word = self.look(talk)
            self.assertEqual(word, decided(talk)[0])
            told[word] += 1
        self.assertGreater(min(told.values()), 20)

    def test_words_alone_by_cases(self):
        for talk in hard_talks():
            self.assertEqual(self.look(talk), "no")

    def test_gaps_alone(self):
        dice = random.Random(603)
        told = {"yes": 0, "no": 0}
        for at in range(100):
            talk = near_talk(dice, dice.randrange(1, 6), 0, dice.randrange(1, 20), kept=0.5)
            word = self.look(talk)
            told[word] += 1
            if len(talk[0]) < 4:
                self.assertEqual(word, "yes" if can_be_kept(talk) else "no")
        self.assertGreater(min(told.values()), 20)

    def test_stretches_packed_side_by_side(self):
        deepest = 0
        for talk, can in packed_talks():
            self.assertEqual(self.look(talk), "yes" if can else "no")
            deepest = max(deepest, 0 if can else cases_deep(judged(talk)[1]))
        self.assertGreater(deepest, 1)

    def test_at_and_about_what_a_telling_has(self):
        dice = random.Random(604)
        for at in range(40):
            things = some_things(dice, dice.randrange(2, 6))
            telling = some_telling(dice, things)
            table = table_laid(things, telling)
            mays = tuple(("may",) + row for row in table)
            ends = [(name, number) for name, kind in things for number in ((0,) if kind == P else (0, 1))]
            times = {}
            for (name, kind), two in zip(things, telling):
                for number, time in enumerate((two,) if kind == P else two):
                    times[name, number] = Fraction(*time)
            x, y = dice.sample(ends, 2)
            apart = times[x] - times[y]
            number, other = (apart.numerator, apart.denominator), (-apart.numerator, apart.denominator)
            just = (("gap", x, y, number, False), ("gap", y, x, other, False))
            self.assertEqual(self.look((things, mays + just)), "yes")
            for strict in ((True, False), (False, True), (True, True)):
                shut = (("gap", x, y, number, strict[0]), ("gap", y, x, other, strict[1]))
                self.assertEqual(self.look((things, mays[:8] + shut)), "no")

    def test_twenty_four_sayings_that_a_telling_keeps(self):
        dice = random.Random(605)
        for at in range(40):
            things = some_things(dice, 5)
            telling = some_telling(dice, things)
            sayings = list(kept_talk(dice, things, 12, 0, dice.choice((2, 6)))[1])
            sayings = [saying for saying in sayings if is_row_so(things, telling, saying[1:])]
            while len(sayings) < 24:
                saying = some_gap_saying(dice, things)
                if is_row_so(things, telling, saying[1:]):
                    sayings.append(saying)
            dice.shuffle(sayings)
            self.assertEqual(self.look((things, tuple(sayings))), "yes")

    def test_nothing_said(self):
        for many in range(1, 6):
            for kinds in itertools.product((P, S), repeat=many):
                self.assertEqual(self.look((tuple(zip("abcde", kinds)), ())), "yes")

    def test_nothing_handed_in_is_changed(self):
        dice = random.Random(606)
        for at in range(30):
            talk = near_talk(dice, 4, 5, 5)
            before = copy.deepcopy(talk)
            first = judged(talk)[0]
            can_have(talk, "a", "b")
            shown_have(talk, "b", "a")
            self.assertEqual(judged(talk)[0], first)
            self.assertExactly(talk, before)


class Answers(Look):
    THINGS = (("a", P), ("s", S))
    TALK = (THINGS, (("may", "a", "s", ("within", "ends")), ("gap", ("s", 1), ("a", 0), (1, 2), True)))
    NEVER = (THINGS, (("may", "a", "s", ("within", "ends")), ("gap", ("a", 0), ("s", 0), (0, 1), False)))
    PAPER = (("told", 0), ("told", 1), ("strike", 0, 1))

    def test_right_ones(self):
        for telling in (((0, 1), ((-1, 1), (1, 3))), ((0, 1), ((-1, 1), (0, 1))), ((5, 2), ((-9, 1), (26, 9)))):
            self.assertSays(True, is_answer, self.TALK, ("yes", telling))
        self.assertSays(True, is_answer, self.NEVER, ("no", self.PAPER))
        self.assertSays(True, is_answer, (self.THINGS, self.NEVER[1] + self.TALK[1]), ("no", self.PAPER))

    def test_yes_and_no_exchanged(self):
        self.assertSays(False, is_answer, self.TALK, ("no", ((0, 1), ((-1, 1), (1, 3)))))
        self.assertSays(False, is_answer, self.NEVER, ("yes", self.PAPER))

    def test_tellings_that_are_none_or_do_not_keep(self):
        for telling in (((0, 1), ((-1, 1), (1, 2))), ((0, 1), ((0, 1), (1, 3))), ((0, 1), ((-1, 1), (-1, 2))),
                        (((-1, 1), (1, 3)), (0, 1)), ((0, 1),), ((0, 1), ((-1, 1), (1, 3)), (0, 1)),
                        [(0, 1), ((-1, 1), (1, 3))], ([0, 1], ((-1, 1), (1, 3))), ((0, 1), [(-1, 1), (1, 3)]),
                        ((False, 1), ((-1, 1), (1, 3))), ((0, True), ((-1, 1), (1, 3))), ((0, 1), ((-1, 1), (2, 6))),
                        ((0, 1), ((1, 3), (-1, 1))), (), None, self.PAPER):
            self.assertSays(False, is_answer, self.TALK, ("yes", telling))

    def test_all_but_one_saying_kept(self):
        dice = random.Random(61)
        seen = 0
        while seen < 40:
            things = some_things(dice, 3)
            telling = some_telling(dice, things)
            sayings = some_talk(dice, things, 4, 3)[1]
            broken = [saying for saying in sayings if not is_row_so(things, telling, saying[1:])]
            self.assertSays(broken == [], is_answer, (things, sayings), ("yes", telling))
            if len(broken) == 1:
                seen += 1
                others = tuple(saying for saying in sayings if saying not in broken)
                self.assertSays(True, is_answer, (things, others), ("yes", telling))

    def test_papers_that_are_not_let_by(self):
        for paper in (self.PAPER[:2], list(self.PAPER), (), (["told", 0],) + self.PAPER[1:],
                      (("told", False),) + self.PAPER[1:], self.PAPER[:2] + (("strike", 0, True),),
                      self.PAPER + (("told", 0),), None):
            self.assertSays(False, is_answer, self.NEVER, ("no", paper))
        self.assertSays(False, is_answer, self.TALK, ("no", self.PAPER))
        self.assertSays(False, is_answer, (self.THINGS, self.NEVER[1][::-1]), ("no", self.PAPER))

    def test_papers_of_other_talks(self):
        talks = [talk for talk, can in packed_talks() if not can] + hard_talks()[:4]
        papers = [judged(talk)[1] for talk in talks]
        for talk, paper in itertools.product(talks, papers):
            self.assertSays(refusal(talk, paper) is None, is_answer, talk, ("no", paper))

    def test_shapes(self):
        good = ("yes", ((0, 1), ((-1, 1), (1, 3))))
        for thing in (list(good), good[:1], good[1:], good + (None,), good[::-1], ("Yes", good[1]), (True, good[1]),
                      ("", good[1]), (["yes"], good[1]), (("yes",), good[1]), (None, good[1]), ("clash", good[1])):
            self.assertSays(False, is_answer, self.TALK, thing)
        self.assertSays(False, is_answer, self.NEVER, ["no", self.PAPER])
        self.assertSays(False, is_answer, self.NEVER, ("none", self.PAPER))
        self.assertSays(False, is_answer, self.NEVER, (False, self.PAPER))

    def test_odd_things(self):
        for thing in ODD:
            for talk in (self.TALK, self.NEVER):
                self.assertSays(False, is_answer, talk, thing)
                self.assertSays(False, is_answer, talk, ("yes", thing))
                self.assertSays(False, is_answer, talk, ("no", thing))

    def test_forty_sayings(self):
        dice = random.Random(611)
        things = some_things(dice, 5)
        telling = some_telling(dice, things)
        sayings = []
        while len(sayings) < 40:
            saying = some_talk(dice, things, 1, 1)[1][dice.randrange(2)]
            if is_row_so(things, telling, saying[1:]):
                sayings.append(saying)
        self.assertSays(True, is_answer, (things, tuple(sayings)), ("yes", telling))
        talk = hard_talks()[0]
        paper = judged(talk)[1]
        many = talk[1] + tuple(some_gap_saying(dice, talk[0]) for at in range(30))
        self.assertSays(True, is_answer, (talk[0], many), ("no", paper))
        self.assertSays(False, is_answer, (talk[0], many[::-1]), ("no", paper))


class Tables(Look):
    def test_against_all_choices(self):
        dice = random.Random(62)
        several = 0
        for at in range(150):
            many = dice.choice((1, 2, 3, 3, 4))
            talk = near_talk(dice, many, 2 * many, dice.randrange(8), dice.choice((3, 6)), 0.7)
            wanted = [table for table, sums in itertools.islice(choices(talk), 301)]
            if len(wanted) <= 300:
                self.assertExactly(full_tables(talk), wanted)
                several += len(wanted) > 1
        self.assertGreater(several, 50)

    def test_without_gaps_as_ways_tells(self):
        dice = random.Random(621)
        for at in range(30):
            talk = some_talk(dice, some_things(dice, dice.choice((2, 3, 4))), dice.randrange(4, 9), 0, 5)
            try:
                wanted = ways(talk)
            except TooMany:
                continue
            self.assertExactly(full_tables(talk), wanted)

    def test_rising_each_once(self):
        talk = ((("a", S), ("b", S)), (("gap", ("b", 0), ("a", 0), (0, 1), False),))
        self.assertExactly(full_tables(talk), [(("a", "b", (word,)),) for word in (
            "begins", "within", "ends", "same", "begun", "lapped", "met", "behind")])
        both = (talk[0], talk[1] + (("may", "b", "a", ("ahead", "begun", "behind")),) * 2)
        self.assertExactly(full_tables(both), [(("a", "b", ("begins",)),), (("a", "b", ("behind",)),)])

    def test_one_thing(self):
        self.assertExactly(full_tables(((("a", P),), ())), [()])
        self.assertExactly(full_tables(((("a", S),), (("gap", ("a", 1), ("a", 0), (1, 9), True),))), [()])
        self.assertExactly(full_tables(((("a", S),), (("gap", ("a", 1), ("a", 0), (0, 1), False),))), [])

    def test_none(self):
        things = (("a", P), ("b", P))
        both = (("gap", ("a", 0), ("b", 0), (0, 1), True), ("gap", ("b", 0), ("a", 0), (0, 1), False))
        self.assertExactly(full_tables((things, both)), [])
        self.assertExactly(full_tables((things, (("may", "a", "b", ("same",)), both[0]))), [])

    def test_just_five_hundred(self):
        talk = JUST_500
        self.assertEqual(len(list(choices(talk))), 500)
        self.assertExactly(full_tables(talk), [table for table, sums in choices(talk)])
        more = JUST_501
        self.assertEqual(len(list(choices(more))), 501)
        with self.assertRaises(TooMany) as caught:
            full_tables(more)
        self.assertExactly(caught.exception.word, "tables")

    def test_nothing_said_of_four(self):
        for kinds in itertools.product((P, S), repeat=4):
            things = tuple(zip("abcd", kinds))
            many = len(list(itertools.islice(fitting((things, ())), 501)))
            if many == 501:
                with self.assertRaises(TooMany):
                    full_tables((things, ()))
            else:
                self.assertEqual(len(full_tables((things, ()))), many)

    def test_a_list_of_ones_own(self):
        talk = ((("a", P), ("b", P)), ())
        first = full_tables(talk)
        first.append(None)
        self.assertEqual(len(full_tables(talk)), 3)


class CanHave(Look):
    def look_at(self, talk, a, b, words):
        """Looks at what a and b can have, in this order, with what shows it."""
        kinds = dict(talk[0])
        self.assertExactly(can_have(talk, a, b), in_order(words))
        shown = shown_have(talk, a, b)
        self.assertIs(type(shown), tuple)
        self.assertEqual([word for word, answer in shown], list(WORDS[kinds[a], kinds[b]]))
        for row in shown:
            self.assertIs(type(row), tuple)
            word, answer = row
            self.assertIs(type(answer), tuple)
            self.assertEqual(self.is_right(with_word(talk, a, b, word), answer), "yes" if word in words else "no")

    def test_against_all_choices(self):
        dice = random.Random(63)
        for at in range(60):
            many = dice.choice((2, 3, 3, 4))
            talk = near_talk(dice, many, 2 * many, dice.randrange(8), dice.choice((3, 6)), 0.7)
            tables = [table for table, sums in choices(talk)]
            for at_row, ((a, k), (b, l)) in enumerate(itertools.combinations(talk[0], 2)):
                words = {table[at_row][2][0] for table in tables}
                self.look_at(talk, a, b, words)
                self.look_at(talk, b, a, {TURNED[word] for word in words})

    def test_five_things(self):
        for talk, can in packed_talks()[:3]:
            words = {"ahead", "meets", "met", "behind"} if can else set()
            self.look_at(talk, "a", "c", words)
            self.look_at(talk, "w", "b", {"ended", "holds", "begun"} if can else set())

    def test_nothing_said(self):
        for kinds in WORDS:
            talk = ((("a", kinds[0]), ("b", kinds[1])), ())
            self.look_at(talk, "a", "b", set(WORDS[kinds]))
            self.look_at(talk, "b", "a", set(WORDS[kinds[::-1]]))

    def test_twenty_three_sayings(self):
        dice = random.Random(631)
        talk = packed_talk((1, 2, 3, 4), 11)
        many = (talk[0], talk[1] + tuple(("gap", ("w", 1), (name, at), (11, 1), dice.random() < 0.5)
                                         for name in "abcd" for at in (0, 1)))
        self.assertEqual(len(many[1]), 23)
        wanted = can_have(many, "a", "b")
        self.look_at(many, "a", "b", set(wanted))
        self.look_at(many, "b", "a", {TURNED[word] for word in wanted})


if __name__ == "__main__":
    unittest.main()
