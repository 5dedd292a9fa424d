"""Points 44 and 47: any talks of at most five things, decided with a telling that fits or a paper by cases."""

import copy
import itertools
import random
import unittest

from whens.checker import lets_no
from whens.closing import closed
from whens.deciding import decided
from whens.tellings import is_telling

from hard_talks import hard_talks
from layouts import TURNED, WORDS, Case
from oracle import (
    closed_laid, fits, fitting, in_order, kept_talk, plain_talk, refusal, some_gap_saying, some_talk, some_things,
    told_numbers,
)

P, S = "point", "stretch"


def cases_deep(paper):
    """How many cases a paper has within one another."""
    if paper[-1][0] != "cases":
        return 0
    return 1 + max(cases_deep(inner) for words, inner in paper[-1][2])


class Decided(Case):
    def look(self, talk):
        """Looks at what is told, by itself; the word."""
        word, found = decided(talk)
        if word == "yes":
            self.assertIs(is_telling(talk[0], found), True)
            self.assertTrue(fits(talk, found))
        else:
            self.assertEqual(word, "no")
            self.assertIs(lets_no(talk, found), True)
            self.assertIsNone(refusal(talk, found))
            self.assertTrue(all(talk[1][number][0] == "may" for number in told_numbers(found)))
            self.assertLessEqual(cases_deep(found), 12)
        return word

    def test_one_thing(self):
        for kind in (P, S):
            self.assertEqual(self.look(((("a", kind),), ())), "yes")
        self.assertEqual(self.look(((("a", S),), (("gap", ("a", 1), ("a", 0), (-5, 1), False),))), "yes")

    def test_nothing_said(self):
        for many in range(2, 6):
            for kinds in itertools.product((P, S), repeat=many):
                self.assertEqual(self.look((tuple(zip("abcde", kinds)), ())), "yes")

    def test_two_things(self):
        for kinds in WORDS:
            things = (("a", kinds[0]), ("b", kinds[1]))
            words = WORDS[kinds]
            self.assertEqual(self.look((things, (("may", "a", "b", words[::2]),))), "yes")
            self.assertEqual(self.look((things, (("may", "a", "b", words[::2]), ("may", "a", "b", words[1::2])))), "no")
            for chosen, word in ((words[::2], "yes"), (words[1::2], "no")):
                turned = ("may", "b", "a", in_order([TURNED[other] for other in chosen]))
                self.assertEqual(self.look((things, (("may", "a", "b", words[::2]), turned))), word)

    def test_points_that_are_unlike(self):
        points = tuple((name, P) for name in "abcde")
        unlike = tuple(("may", a, b, ("ahead", "behind")) for a, b in itertools.combinations("abcde", 2))
        self.assertEqual(self.look((points, unlike)), "yes")
        at_most = (("may", "a", "b", ("ahead", "same")), ("may", "b", "c", ("ahead", "same")),
                   ("may", "c", "a", ("ahead", "same")))
        self.assertEqual(self.look((points, unlike[:1] + at_most)), "no")
        self.assertEqual(self.look((points, unlike[4:] + at_most[:2])), "yes")

    def test_against_all_orders(self):
        dice = random.Random(47)
        told = {"yes": 0, "no": 0}
        for at in range(250):
            things = some_things(dice, dice.choice((2, 3, 3, 4)))
            talk = some_talk(dice, things, dice.randrange(1, 9), dice.randrange(3), dice.choice((2, 4, 8)))
            word = "yes" if any(True for telling in fitting(talk)) else "no"
            self.assertEqual(self.look(talk), word, talk)
            told[word] += 1
        self.assertGreater(min(told.values()), 50)

    def test_five_things_against_all_orders(self):
        dice = random.Random(471)
        told = {"yes": 0, "no": 0}
        for at in range(40):
            things = some_things(dice, 5)
            sayings = tuple(
                ("may", a, b, in_order(dice.sample(WORDS[k, l], min(len(WORDS[k, l]), dice.randrange(1, 7)))))
                for (a, k), (b, l) in itertools.combinations(things, 2))
            talk = (things, sayings)
            word = "yes" if any(True for telling in fitting(talk)) else "no"
            self.assertEqual(self.look(talk), word, talk)
            told[word] += 1
        self.assertGreater(min(told.values()), 5)

    def test_closed_though_none_fits(self):
        deepest = 0
        for talk in hard_talks():
            self.assertEqual(closed(talk)[0], "table")
            self.assertEqual(closed(talk)[1], closed_laid(talk))
            self.assertEqual(list(fitting(talk)), [])
            self.assertEqual(self.look(talk), "no")
            deepest = max(deepest, cases_deep(decided(talk)[1]))
        self.assertGreater(deepest, 2)

    def test_closed_though_none_fits_with_gaps_and_more_among_them(self):
        dice = random.Random(472)
        for talk in hard_talks():
            things, sayings = talk
            more = list(sayings) + [some_gap_saying(dice, things) for at in range(8)]
            more += [("may", b, a, WORDS[dict(things)[b], dict(things)[a]]) for (a, k), (b, l) in zip(things, things[1:])]
            dice.shuffle(more)
            self.assertEqual(self.look((things, tuple(more))), "no")

    def test_a_word_more_lets_some_of_them_be(self):
        dice = random.Random(473)
        told = {"yes": 0, "no": 0}
        for talk in hard_talks():
            things, sayings = talk
            kinds = dict(things)
            for at in range(6):
                place = dice.randrange(len(sayings))
                name, a, b, words = sayings[place]
                wide = in_order(words + (dice.choice(WORDS[kinds[a], kinds[b]]),))
                other = (things, sayings[:place] + ((name, a, b, wide),) + sayings[place + 1:])
                word = "yes" if any(True for telling in fitting(other)) else "no"
                self.assertEqual(self.look(other), word)
                told[word] += 1
        self.assertGreater(min(told.values()), 5)

    def test_plain_talks(self):
        dice = random.Random(474)
        for at in range(60):
            talk = plain_talk(some_talk(dice, some_things(dice, dice.randrange(2, 6)), dice.randrange(1, 14), 1, 3))
            self.assertEqual(self.look(talk), "no" if closed_laid(talk) is None else "yes")

    def test_twenty_four_sayings_that_a_telling_keeps(self):
        dice = random.Random(475)
        for at in range(60):
            self.assertEqual(self.look(kept_talk(dice, some_things(dice, 5), 20, 4, dice.choice((2, 5, 9)))), "yes")

    def test_gaps_are_passed_over(self):
        things = (("a", P), ("b", P))
        gaps = (("gap", ("a", 0), ("b", 0), (-1, 1), False), ("gap", ("b", 0), ("a", 0), (-1, 1), False))
        self.assertEqual(self.look((things, gaps)), "yes")
        self.assertEqual(self.look((things, gaps + (("may", "a", "b", ("same",)),))), "yes")

    def test_nothing_handed_in_is_changed(self):
        for talk in hard_talks():
            before = copy.deepcopy(talk)
            decided(talk)
            self.assertExactly(talk, before)


if __name__ == "__main__":
    unittest.main()
