"""Point 51: all full tables of a talk."""

import copy
import itertools
import random
import unittest

from whens.errors import TooMany
from whens.ways import ways

from hard_talks import hard_talks
from layouts import ORDER, WORDS, Case
from oracle import fitting, kept_talk, some_talk, some_things, table_laid

P, S = "point", "stretch"
THREE_AND_A_POINT = (("a", S), ("b", P), ("c", S), ("d", S))
FIVE_HUNDRED = (
    (THREE_AND_A_POINT, (("may", "b", "a", ("ahead", "within")), ("may", "d", "a", ("begins", "ends", "met", "behind")))),
    ((("a", S), ("b", S), ("c", P), ("d", S)), (
        ("may", "a", "c", ("behind",)), ("may", "b", "a", ("meets", "begins", "ends", "ended", "holds", "begun")))),
)
ONE_MORE = (
    ((("a", S), ("b", P), ("c", S), ("d", P)), (
        ("may", "c", "a", ("meets", "begins", "ends", "holds", "lapped", "met", "behind")),)),
    ((("a", S), ("b", S), ("c", P), ("d", P)), (
        ("may", "a", "b", ("ahead", "meets", "begins", "holds", "begun", "lapped", "met")),)),
)


def places(table):
    return [ORDER.index(words[0]) for a, b, words in table]


def tables_laid(talk):
    """The full tables of all orders that fit, rising."""
    return sorted({table_laid(talk[0], telling) for telling in fitting(talk)}, key=places)


class Ways(Case):
    def test_one_thing(self):
        for kind in (P, S):
            self.assertExactly(ways(((("a", kind),), ())), [()])
        self.assertExactly(ways(((("a", S),), (("gap", ("a", 1), ("a", 0), (-5, 1), False),))), [()])

    def test_two_things(self):
        for kinds in WORDS:
            things = (("a", kinds[0]), ("b", kinds[1]))
            self.assertExactly(ways((things, ())), [(("a", "b", (word,)),) for word in WORDS[kinds]])
            for word in WORDS[kinds]:
                self.assertExactly(ways((things, (("may", "a", "b", (word,)),))), [(("a", "b", (word,)),)])

    def test_three_things_of_which_nothing_is_said(self):
        for kinds, many in (((P, P, P), 13), ((S, S, S), 409)):
            talk = (tuple(zip("abc", kinds)), ())
            self.assertExactly(ways(talk), tables_laid(talk))
            self.assertEqual(len(ways(talk)), many)

    def test_against_all_orders(self):
        dice = random.Random(51)
        told = {"tables": 0, "none": 0, "many": 0}
        for at in range(120):
            things = some_things(dice, dice.choice((2, 3, 4, 4)))
            make = dice.choice((some_talk, kept_talk))
            talk = make(dice, things, dice.randrange(1, 9), dice.randrange(3), dice.choice((2, 4, 8)))
            if len(list(itertools.islice(fitting(talk), 501))) > 500:
                told["many"] += 1
                self.too_many(talk)
            else:
                wanted = tables_laid(talk)
                told["tables" if wanted else "none"] += 1
                self.assertExactly(ways(talk), wanted)
        self.assertGreater(min(told.values()), 4)

    def test_none_where_none_fits(self):
        self.assertExactly(ways(((("a", P), ("b", P)), (("may", "a", "b", ("same",)), ("may", "b", "a", ("ahead",))))), [])
        for talk in hard_talks():
            self.assertExactly(ways(talk), [])

    def test_just_five_hundred(self):
        for talk in FIVE_HUNDRED:
            found = ways(talk)
            self.assertEqual(len(found), 500)
            self.assertExactly(found, tables_laid(talk))

    def too_many(self, talk):
        with self.assertRaises(TooMany) as caught:
            ways(talk)
        self.assertExactly(caught.exception.word, "tables")

    def test_one_more_than_five_hundred(self):
        for talk in ONE_MORE:
            self.assertEqual(len(tables_laid(talk)), 501)
            self.too_many(talk)

    def test_very_many(self):
        self.too_many((tuple((name, S) for name in "abcd"), ()))
        self.too_many((tuple((name, S) for name in "abcd"), (("may", "a", "d", ("behind",)),)))

    def test_gaps_are_passed_over(self):
        things = (("a", P), ("b", P))
        gaps = (("gap", ("a", 0), ("b", 0), (-1, 1), False), ("gap", ("b", 0), ("a", 0), (-1, 1), False))
        self.assertExactly(ways((things, gaps + (("may", "a", "b", ("ahead", "behind")),))),
                           [(("a", "b", ("ahead",)),), (("a", "b", ("behind",)),)])

    def test_told_anew(self):
        talk = (THREE_AND_A_POINT[:3], ())
        before = copy.deepcopy(talk)
        first = ways(talk)
        wanted = list(first)
        first.clear()
        self.assertExactly(ways(talk), wanted)
        self.assertExactly(talk, before)


if __name__ == "__main__":
    unittest.main()
