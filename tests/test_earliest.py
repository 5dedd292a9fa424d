"""Points 44, 45, 46: plain talks, their closed tables, and the earliest telling that fits."""

import copy
import itertools
import random
import unittest

from whens.checker import lets_no
from whens.closing import closed
from whens.earliest import earliest
from whens.errors import NoPlain
from whens.tellings import is_telling

from layouts import ORDER, WORDS, Case
from oracle import (
    all_tellings, around_laid, fits, fitting, in_order, kept_talk, plain_talk, refusal, some_talk,
    some_things, table_laid, told_numbers,
)

P, S = "point", "stretch"


def ends_in(things, telling):
    """The times of all ends, in order."""
    found = []
    for (name, kind), times in zip(things, telling):
        found += [times] if kind == P else list(times)
    return found


def least_of(things, tellings):
    """For each end its least time among tellings; None where there is none."""
    least = None
    for telling in tellings:
        times = [number for number, one in ends_in(things, telling)]
        least = times if least is None else [min(two) for two in zip(least, times)]
    return least


def some_plain(dice, many, mays, gaps=0, most=13):
    """A plain talk that some telling keeps, or perhaps none."""
    things = some_things(dice, many)
    make = dice.choice((some_talk, kept_talk, kept_talk))
    return plain_talk(make(dice, things, mays, gaps, most))


class Earliest(Case):
    def is_least(self, talk, tellings):
        """Looks at the answer by tellings that fit, each order of ends among them with the least whole numbers."""
        word, found = earliest(talk)
        least = least_of(talk[0], tellings)
        if least is None:
            self.assertEqual(word, "no", talk)
            self.is_paper(talk, found)
        else:
            self.assertEqual(word, "yes", talk)
            self.assertExactly(ends_in(talk[0], found), [(number, 1) for number in least])
            self.assertIs(is_telling(talk[0], found), True)
            self.assertTrue(fits(talk, found))
        return word

    def is_paper(self, talk, paper):
        self.assertIs(lets_no(talk, paper), True)
        self.assertIsNone(refusal(talk, paper))
        self.assertTrue(all(talk[1][number][0] == "may" for number in told_numbers(paper)))

    def test_one_thing(self):
        self.assertExactly(earliest(((("a", P),), ())), ("yes", ((0, 1),)))
        self.assertExactly(earliest(((("a", S),), ())), ("yes", (((0, 1), (1, 1)),)))
        self.assertExactly(earliest(((("a", S),), (("gap", ("a", 1), ("a", 0), (-5, 1), False),))),
                           ("yes", (((0, 1), (1, 1)),)))

    def test_nothing_said(self):
        for many in range(1, 7):
            for kinds in itertools.product((P, S), repeat=many):
                things = tuple(zip("abcdef", kinds))
                wanted = tuple((0, 1) if kind == P else ((0, 1), (1, 1)) for kind in kinds)
                self.assertExactly(earliest((things, ())), ("yes", wanted))

    def test_each_word(self):
        for kinds in WORDS:
            things = (("a", kinds[0]), ("b", kinds[1]))
            for word in WORDS[kinds]:
                talk = (things, (("may", "a", "b", (word,)),))
                self.is_least(talk, fitting(talk))
                self.is_least(talk, [telling for telling in all_tellings(things, range(5)) if fits(talk, telling)])

    def test_each_plain_may(self):
        for kinds in WORDS:
            things = (("a", kinds[0]), ("b", kinds[1]))
            for may in {around_laid(kinds, may) for may in itertools.combinations(WORDS[kinds], 2)}:
                for names, words in ((("a", "b"), may), (("b", "a"), in_order([ORDER[12 - ORDER.index(w)] for w in may]))):
                    talk = (things, (("may",) + names + (words,),))
                    self.is_least(talk, fitting(talk))

    def test_written_out(self):
        things = (("a", P), ("b", S), ("c", S))
        talk = (things, (("may", "b", "a", ("ended",)), ("may", "b", "c", ("ahead", "meets"))))
        self.assertExactly(earliest(talk), ("yes", ((1, 1), ((0, 1), (1, 1)), ((1, 1), (2, 1)))))
        talk = (things, (("may", "a", "b", ("behind",)), ("may", "b", "c", ("behind",))))
        self.assertExactly(earliest(talk), ("yes", ((4, 1), ((2, 1), (3, 1)), ((0, 1), (1, 1)))))

    def test_a_row_of_six_stretches(self):
        things = tuple((name, S) for name in "abcdef")
        for word, step in (("ahead", 2), ("meets", 1)):
            talk = (things, tuple(("may", b, a, (ORDER[12 - ORDER.index(word)],)) for a, b in zip("abcde", "bcdef")))
            wanted = tuple(((step * at, 1), (step * at + 1, 1)) for at in range(6))
            self.assertExactly(earliest(talk), ("yes", wanted))

    def test_up_to_three_things(self):
        dice = random.Random(46)
        told = {"yes": 0, "no": 0}
        for at in range(150):
            talk = some_plain(dice, dice.choice((2, 3, 3)), dice.randrange(8), dice.randrange(3), dice.choice((1, 2, 6)))
            told[self.is_least(talk, fitting(talk))] += 1
        self.assertGreater(min(told.values()), 15)

    def test_by_all_tellings_of_whole_numbers(self):
        dice = random.Random(461)
        for at in range(25):
            talk = some_plain(dice, 3, dice.randrange(1, 4), 1, 4)
            self.is_least(talk, [telling for telling in all_tellings(talk[0], range(6)) if fits(talk, telling)])

    def test_four_to_six_things(self):
        dice = random.Random(462)
        told = {"yes": 0, "no": 0}
        for at in range(90):
            many = dice.choice((4, 5, 6))
            talk = some_plain(dice, many, dice.randrange(many * 2, 22), dice.randrange(3), 2)
            orders = list(itertools.islice(fitting(talk), 900))
            if len(orders) < 900:
                told[self.is_least(talk, orders)] += 1
        self.assertGreater(min(told.values()), 15)

    def test_no_gap_is_told_or_kept(self):
        things = (("a", P), ("b", P))
        gaps = (("gap", ("a", 0), ("b", 0), (-1, 1), False), ("gap", ("b", 0), ("a", 0), (-1, 1), False))
        self.assertExactly(earliest((things, gaps)), ("yes", ((0, 1), (0, 1))))
        talk = (things, gaps + (("may", "a", "b", ("ahead",)), ("may", "b", "a", ("ahead",))))
        word, paper = earliest(talk)
        self.assertEqual(word, "no")
        self.is_paper(talk, paper)

    def test_nothing_handed_in_is_changed(self):
        dice = random.Random(463)
        for at in range(10):
            talk = some_plain(dice, 4, 6, 2)
            before = copy.deepcopy(talk)
            first = earliest(talk)
            self.assertExactly(talk, before)
            self.assertEqual(earliest(talk)[0], first[0])


class NotPlain(Case):
    def refused(self, talk, number):
        with self.assertRaises(NoPlain) as caught:
            earliest(talk)
        self.assertExactly(caught.exception.number, number)

    def test_the_first_such_saying(self):
        things = (("a", P), ("b", P), ("s", S), ("t", S))
        good = ("may", "a", "b", ("ahead", "same"))
        gap = ("gap", ("a", 0), ("s", 1), (1, 2), True)
        bads = (("may", "a", "b", ("ahead", "behind")), ("may", "b", "a", ("ahead", "behind")),
                ("may", "s", "t", ("ahead", "overlaps")), ("may", "a", "s", ("begins", "ends")),
                ("may", "t", "b", ("ahead", "behind")))
        for bad in bads:
            self.refused((things, (bad,)), 0)
            self.refused((things, (good, bad)), 1)
            self.refused((things, (gap, gap, bad, good)), 2)
            self.refused((things, (gap, good, gap, gap, bad, bad, gap)), 4)
            self.refused((things, (good,) * 23 + (bad,)), 23)

    def test_refused_though_the_rest_clashes(self):
        things = (("a", P), ("b", P))
        sayings = (("may", "a", "b", ("ahead",)), ("may", "a", "b", ("behind",)), ("may", "a", "b", ("ahead", "behind")))
        self.refused((things, sayings), 2)

    def test_though_together_they_are_plain(self):
        things = (("a", P), ("b", P))
        self.refused((things, (("may", "a", "b", ("ahead", "same")), ("may", "a", "b", ("ahead", "behind")))), 1)


class ClosedTables(Case):
    def test_of_plain_talks_have_just_what_fitting_tellings_have(self):
        dice = random.Random(45)
        told = {"table": 0, "clash": 0}
        for at in range(120):
            many = dice.choice((2, 3, 3, 4))
            talk = some_plain(dice, many, dice.randrange(many, 2 * many + 1), 0, 4)
            seen = {}
            for telling in fitting(talk):
                for a, b, (word,) in table_laid(talk[0], telling):
                    seen.setdefault((a, b), set()).add(word)
            word, table = closed(talk)
            told[word] += 1
            self.assertEqual(word == "table", seen != {})
            if word == "table":
                self.assertEqual({(a, b): set(words) for a, b, words in table}, seen)
        self.assertGreater(min(told.values()), 15)


if __name__ == "__main__":
    unittest.main()
