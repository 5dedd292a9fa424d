"""Points 48, 49, 50: what can be of two things, what follows, each with what shows it."""

import copy
import itertools
import random
import unittest

from whens.canbe import asked, can_be, follows, what_can_be
from whens.checker import lets_no
from whens.closing import closed
from whens.tellings import is_table, is_telling
from whens.ways import ways

from hard_talks import hard_talks
from layouts import TURNED, WORDS, Case
from oracle import (
    fits, fitting, in_order, kept_talk, plain_talk, refusal, some_may_saying, some_talk, some_things, table_laid,
    told_numbers, word_in,
)

P, S = "point", "stretch"


def all_that_can_be(talk):
    """For each two things, the first ahead of the second, the words of all orders that fit."""
    found = {(a, b): set() for (a, k), (b, l) in itertools.combinations(talk[0], 2)}
    for telling in fitting(talk):
        for a, b, (word,) in table_laid(talk[0], telling):
            found[a, b].add(word)
    return found


def some_asked(dice, rounds):
    """Talks of two to four things, small enough that all orders are gone through."""
    for at in range(rounds):
        things = some_things(dice, dice.choice((2, 3, 3, 4)))
        make = dice.choice((some_talk, kept_talk, kept_talk))
        yield make(dice, things, dice.randrange(len(things), 3 * len(things)), dice.randrange(3), dice.choice((2, 4, 7)))


def with_saying(talk, saying):
    return (talk[0], talk[1] + (saying,))


class Look(Case):
    def is_paper(self, talk, paper):
        self.assertIs(lets_no(talk, paper), True)
        self.assertIsNone(refusal(talk, paper))
        self.assertTrue(all(talk[1][number][0] == "may" for number in told_numbers(paper)))

    def is_telling_with(self, talk, telling, a, b, words):
        self.assertIs(is_telling(talk[0], telling), True)
        self.assertTrue(fits(talk, telling))
        self.assertIn(word_in(talk[0], telling, a, b), words)


class CanBe(Look):
    def test_against_all_orders(self):
        for talk in some_asked(random.Random(48), 60):
            wanted = all_that_can_be(talk)
            for (a, b), words in wanted.items():
                self.assertExactly(can_be(talk, a, b), in_order(words))
                self.assertExactly(can_be(talk, b, a), in_order([TURNED[word] for word in words]))
            table = what_can_be(talk)
            self.assertExactly(table, tuple((a, b, in_order(wanted[a, b])) for a, b in wanted))
            self.assertIs(is_table(talk[0], table), True)

    def test_one_thing(self):
        for kind in (P, S):
            self.assertExactly(what_can_be(((("a", kind),), ())), ())

    def test_nothing_said(self):
        for kinds in itertools.product((P, S), repeat=3):
            things = tuple(zip("abc", kinds))
            for (a, k), (b, l) in itertools.permutations(things, 2):
                self.assertExactly(can_be((things, ()), a, b), WORDS[k, l])

    def test_none_where_none_fits(self):
        for talk in hard_talks()[:6]:
            self.assertExactly(what_can_be(talk), tuple((a, b, ()) for (a, k), (b, l)
                                                        in itertools.combinations(talk[0], 2)))
            self.assertExactly(can_be(talk, "e", "a"), ())
            self.assertExactly(can_be(talk, "b", "c"), ())

    def test_less_than_closed_where_not_plain(self):
        # Closing leaves in what can't be: the hard talks with one more word for two things, by which some telling fits.
        seen = 0
        for talk in hard_talks():
            things, sayings = talk
            kinds = dict(things)
            for place, (name, a, b, words) in enumerate(sayings[:3]):
                wide = WORDS[kinds[a], kinds[b]]
                other = (things, sayings[:place] + ((name, a, b, wide),) + sayings[place + 1:])
                wanted = all_that_can_be(other)
                self.assertExactly(what_can_be(other), tuple((c, d, in_order(wanted[c, d])) for c, d in wanted))
                word, table = closed(other)
                if word == "table":
                    seen += any(set(row[2]) != wanted[row[:2]] and wanted[row[:2]] for row in table)
                    self.assertTrue(all(wanted[row[:2]] <= set(row[2]) for row in table))
        self.assertGreater(seen, 3)

    def test_gaps_are_passed_over(self):
        things = (("a", P), ("b", P))
        gaps = (("gap", ("a", 0), ("b", 0), (-1, 1), False), ("gap", ("b", 0), ("a", 0), (-1, 1), False))
        self.assertExactly(can_be((things, gaps), "b", "a"), ("ahead", "same", "behind"))
        self.assertExactly(what_can_be((things, gaps + (("may", "b", "a", ("ahead", "behind")),))),
                           (("a", "b", ("ahead", "behind")),))

    def test_nothing_handed_in_is_changed(self):
        for talk in some_asked(random.Random(481), 5):
            before = copy.deepcopy(talk)
            a, b = talk[0][0][0], talk[0][1][0]
            first = (can_be(talk, a, b), what_can_be(talk))
            asked(talk, a, b, "ahead")
            follows(talk, a, b, ())
            self.assertExactly(talk, before)
            self.assertExactly((can_be(talk, a, b), what_can_be(talk)), first)


class Asked(Look):
    def test_against_all_orders(self):
        told = {"yes": 0, "no": 0}
        for talk in some_asked(random.Random(482), 40):
            kinds = dict(talk[0])
            for (a, b), words in all_that_can_be(talk).items():
                for word in WORDS[kinds[a], kinds[b]]:
                    for one, other, said in ((a, b, word), (b, a, TURNED[word])):
                        answer, shown = asked(talk, one, other, said)
                        self.assertEqual(answer, "yes" if word in words else "no")
                        told[answer] += 1
                        if answer == "yes":
                            self.is_telling_with(talk, shown, one, other, (said,))
                        else:
                            self.is_paper(with_saying(talk, ("may", one, other, (said,))), shown)
        self.assertGreater(min(told.values()), 100)

    def test_twenty_three_sayings_of_five_things(self):
        dice = random.Random(483)
        things = some_things(dice, 5)
        talk = kept_talk(dice, things, 20, 3, 5)
        for (a, k), (b, l) in itertools.permutations(things, 2):
            found = []
            for word in WORDS[k, l]:
                answer, shown = asked(talk, a, b, word)
                if answer == "yes":
                    found.append(word)
                    self.is_telling_with(talk, shown, a, b, (word,))
                else:
                    self.is_paper(with_saying(talk, ("may", a, b, (word,))), shown)
            self.assertExactly(can_be(talk, a, b), tuple(found))


class Follows(Look):
    def look(self, talk, a, b, words, wanted):
        kinds = dict(talk[0])
        lacking = tuple(word for word in WORDS[kinds[a], kinds[b]] if word not in words)
        answer, shown = follows(talk, a, b, words)
        self.assertEqual(answer, wanted)
        if answer == "yes":
            self.is_paper(with_saying(talk, ("may", a, b, lacking)), shown)
        else:
            self.is_telling_with(talk, shown, a, b, lacking)

    def test_what_follows_and_what_does_not(self):
        dice = random.Random(49)
        for talk in some_asked(dice, 50):
            kinds = dict(talk[0])
            for (a, b), words in all_that_can_be(talk).items():
                turned = {TURNED[word] for word in words}
                for one, other, can in ((a, b, words), (b, a, turned)):
                    every = WORDS[kinds[one], kinds[other]]
                    if len(can) < len(every):
                        self.look(talk, one, other, in_order(can), "yes")
                        spare = dice.choice([word for word in every if word not in can])
                        if len(can) + 1 < len(every):
                            self.look(talk, one, other, in_order(can | {spare}), "yes")
                    for word in can:
                        self.look(talk, one, other, tuple(said for said in every if said != word), "no")
                    self.look(talk, one, other, (), "no" if can else "yes")

    def test_all_follows_where_none_fits(self):
        for talk in hard_talks()[:5]:
            for words in ((), ("ahead",), ("behind",)):
                self.look(talk, "c", "a", words, "yes")


class Laws(Look):
    def test_within_the_closed_table_and_of_plain_talks_just_that(self):
        dice = random.Random(50)
        for at in range(80):
            things = some_things(dice, dice.randrange(2, 6))
            talk = some_talk(dice, things, dice.randrange(1, 10), 1, dice.choice((3, 6)))
            word, table = closed(talk)
            if word == "table":
                for row, wide in zip(what_can_be(talk), table):
                    self.assertLessEqual(set(row[2]), set(wide[2]))
            plain = plain_talk(talk)
            word, table = closed(plain)
            if word == "table":
                self.assertExactly(what_can_be(plain), table)
            else:
                self.assertTrue(all(row[2] == () for row in what_can_be(plain)))

    def test_with_a_saying_more_within_what_it_was(self):
        dice = random.Random(501)
        for talk in some_asked(dice, 40):
            more = with_saying(talk, some_may_saying(dice, talk[0], 5))
            for row, wide in zip(what_can_be(more), what_can_be(talk)):
                self.assertLessEqual(set(row[2]), set(wide[2]))

    def test_each_word_that_can_be_is_in_some_full_table(self):
        dice = random.Random(502)
        for at in range(25):
            talk = kept_talk(dice, some_things(dice, 3), 4, 1, 4)
            tables = ways(talk)
            for place, (a, b, words) in enumerate(what_can_be(talk)):
                self.assertEqual({table[place][2][0] for table in tables}, set(words))


if __name__ == "__main__":
    unittest.main()
