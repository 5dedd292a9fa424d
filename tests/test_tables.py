"""Points 34, 35, 36, 39: tables, what is said of two things, closed tables, tables as talks."""

import copy
import itertools
import random
import unittest

from whens.tables import as_talk, is_closed, said, within, words_at
from whens.talks import is_talk

from layouts import ORDER, TURNED, WORDS, Case
from oracle import behind_laid, closed_laid, in_order, mays_said, some_talk, some_things

P, S = "point", "stretch"
THINGS = (("a", P), ("b", S), ("c", S), ("d", P))
TABLE = (
    ("a", "b", ("ahead", "begins")), ("a", "c", ("within",)), ("a", "d", ("ahead", "same", "behind")),
    ("b", "c", ("meets", "overlaps", "met")), ("b", "d", ("holds", "begun")), ("c", "d", ("ended",)),
)


def some_table(dice, things, thick=0.6):
    """A table with one word or more in each may."""
    rows = []
    for (a, one), (b, other) in itertools.combinations(things, 2):
        words = WORDS[one, other]
        chosen = [word for word in words if dice.random() < thick] or [dice.choice(words)]
        rows.append((a, b, in_order(chosen)))
    return tuple(rows)


def is_closed_laid(talk, table):
    """Point 36 by its words."""
    kinds, left = dict(talk[0]), mays_said(talk)
    words = {(a, b): set(may) for a, b, may in table}
    words.update({(b, a): {TURNED[word] for word in may} for a, b, may in table})
    if any(not words[two] <= left[two] for two in left):
        return False
    for a, b, c in itertools.permutations(kinds, 3):
        three = (kinds[a], kinds[c], kinds[b])
        can = set().union(*[behind_laid(three, one, other) for one in words[a, c] for other in words[c, b]])
        if not words[a, b] <= can:
            return False
    return True


class WordsAt(Case):
    def test_named_either_way(self):
        self.assertExactly(words_at(THINGS, TABLE, "a", "b"), ("ahead", "begins"))
        self.assertExactly(words_at(THINGS, TABLE, "b", "a"), ("begun", "behind"))
        self.assertExactly(words_at(THINGS, TABLE, "b", "c"), ("meets", "overlaps", "met"))
        self.assertExactly(words_at(THINGS, TABLE, "c", "b"), ("meets", "lapped", "met"))
        self.assertExactly(words_at(THINGS, TABLE, "d", "a"), ("ahead", "same", "behind"))
        self.assertExactly(words_at(THINGS, TABLE, "d", "c"), ("ends",))
        self.assertExactly(words_at(THINGS, TABLE, "c", "d"), ("ended",))

    def test_all_pairs_of_six(self):
        dice = random.Random(34)
        for at in range(20):
            things = some_things(dice, 6)
            table = some_table(dice, things)
            for a, b, words in table:
                self.assertExactly(words_at(things, table, a, b), words)
                self.assertExactly(words_at(things, table, b, a), in_order([TURNED[word] for word in words]))


class Within(Case):
    def test_like_tables(self):
        self.assertSays(True, within, TABLE, TABLE)
        self.assertSays(True, within, (), ())
        self.assertSays(True, within, copy.deepcopy(TABLE), TABLE)

    def test_a_word_less_or_more_at_each_row(self):
        for at, (a, b, words) in enumerate(TABLE):
            kinds = (dict(THINGS)[a], dict(THINGS)[b])
            for word in WORDS[kinds]:
                if word in words and len(words) > 1:
                    other = tuple(chosen for chosen in words if chosen != word)
                    fewer = TABLE[:at] + ((a, b, other),) + TABLE[at + 1:]
                    self.assertSays(True, within, fewer, TABLE)
                    self.assertSays(False, within, TABLE, fewer)
                if word not in words:
                    more = TABLE[:at] + ((a, b, in_order(words + (word,))),) + TABLE[at + 1:]
                    self.assertSays(False, within, more, TABLE)
                    self.assertSays(True, within, TABLE, more)

    def test_neither_within_the_other(self):
        one = (("a", "b", ("ahead", "same")),)
        other = (("a", "b", ("same", "behind")),)
        self.assertSays(False, within, one, other)
        self.assertSays(False, within, other, one)

    def test_by_sets(self):
        dice = random.Random(341)
        for at in range(300):
            things = some_things(dice, dice.randrange(2, 4))
            one, other = some_table(dice, things, 0.4), some_table(dice, things, 0.9)
            wanted = all(set(row[2]) <= set(wide[2]) for row, wide in zip(one, other))
            self.assertSays(wanted, within, one, other)


class Said(Case):
    def test_none_said(self):
        talk = (THINGS, (("may", "a", "c", ("within",)),))
        self.assertExactly(said(talk, "a", "b"), WORDS[P, S])
        self.assertExactly(said(talk, "b", "a"), WORDS[S, P])
        self.assertExactly(said(talk, "b", "c"), ORDER)
        self.assertExactly(said(talk, "d", "a"), WORDS[P, P])
        self.assertExactly(said((THINGS, ()), "c", "d"), WORDS[S, P])

    def test_one_said(self):
        for names, words in ((("b", "c"), ("meets", "within", "ended")), (("c", "b"), ("begins", "holds", "met"))):
            talk = (THINGS, (("may",) + names + (words,),))
            self.assertExactly(said(talk, names[0], names[1]), words)
            self.assertExactly(said(talk, names[1], names[0]), in_order([TURNED[word] for word in words]))

    def test_several_either_way_about(self):
        talk = (THINGS, (("may", "b", "c", ("ahead", "meets", "overlaps", "met")),
                         ("may", "a", "b", ("ahead",)),
                         ("may", "c", "b", ("meets", "lapped", "met", "behind")),
                         ("may", "b", "c", ("meets", "begins", "met", "behind"))))
        self.assertExactly(said(talk, "b", "c"), ("meets", "met"))
        self.assertExactly(said(talk, "c", "b"), ("meets", "met"))

    def test_no_word_in_common(self):
        talk = (THINGS, (("may", "b", "c", ("ahead",)), ("may", "c", "b", ("ahead",))))
        self.assertExactly(said(talk, "b", "c"), ())
        self.assertExactly(said(talk, "c", "b"), ())

    def test_gaps_are_passed_over(self):
        gaps = (("gap", ("b", 0), ("c", 1), (-1, 1), True), ("gap", ("c", 1), ("b", 0), (-1, 1), True))
        self.assertExactly(said((THINGS, gaps), "b", "c"), ORDER)
        talk = (THINGS, gaps[:1] + (("may", "b", "c", ("met", "behind")),) + gaps[1:])
        self.assertExactly(said(talk, "b", "c"), ("met", "behind"))

    def test_against_the_tests_own(self):
        dice = random.Random(35)
        for at in range(200):
            things = some_things(dice, dice.randrange(2, 7))
            talk = some_talk(dice, things, dice.randrange(20), dice.randrange(4))
            for (a, b), words in mays_said(talk).items():
                self.assertExactly(said(talk, a, b), in_order(words))
                self.assertExactly(said(talk, b, a), in_order([TURNED[word] for word in words]))


class Closed(Case):
    def test_one_and_two_things(self):
        self.assertSays(True, is_closed, ((("a", S),), ()), ())
        self.assertSays(True, is_closed, ((("a", S),), (("gap", ("a", 1), ("a", 0), (-1, 1), False),)), ())
        things = (("a", P), ("b", P))
        talk = (things, (("may", "b", "a", ("ahead", "same")),))
        for words in (("same",), ("behind",), ("same", "behind")):
            self.assertSays(True, is_closed, talk, (("a", "b", words),))
        for words in (("ahead",), ("ahead", "same"), ("ahead", "behind"), ("ahead", "same", "behind")):
            self.assertSays(False, is_closed, talk, (("a", "b", words),))

    def test_a_word_that_comes_of_no_third_thing(self):
        things = (("a", P), ("b", P), ("c", P))
        rows = (("a", "b", ("ahead",)), ("a", "c", ("ahead",)), ("b", "c", ("ahead", "same")))
        self.assertSays(True, is_closed, (things, ()), rows)
        for at, words in ((0, ("ahead", "same")), (0, ("ahead", "behind")), (1, ("ahead", "same")), (1, ("behind",)),
                          (2, ("behind",)), (2, ("ahead", "same", "behind"))):
            other = rows[:at] + (rows[at][:2] + (words,),) + rows[at + 1:]
            self.assertSays(is_closed_laid((things, ()), other), is_closed, (things, ()), other)
        self.assertSays(False, is_closed, (things, ()), rows[:1] + (("a", "c", ("ahead", "same")),) + rows[2:])
        self.assertSays(False, is_closed, (things, ()), (
            ("a", "b", ("ahead",)), ("a", "c", ("behind",)), ("b", "c", ("ahead",))))

    def test_a_table_with_a_row_without_words_is_none_of_these(self):
        things = (("a", P), ("b", P), ("c", P))
        none = tuple((a, b, ()) for a, b in itertools.combinations("abc", 2))
        self.assertSays(False, is_closed, (things, ()), none)
        self.assertSays(False, is_closed, (things[:2], ()), (("a", "b", ()),))

    def test_all_words_are_closed_where_nothing_is_said(self):
        dice = random.Random(36)
        for many in range(1, 7):
            things = some_things(dice, many)
            table = tuple((a, b, WORDS[k, l]) for (a, k), (b, l) in itertools.combinations(things, 2))
            self.assertSays(True, is_closed, (things, ()), table)

    def test_a_word_more_than_is_said(self):
        dice = random.Random(361)
        seen = 0
        while seen < 40:
            things = some_things(dice, dice.randrange(2, 5))
            talk = some_talk(dice, things, dice.randrange(1, 5), dice.randrange(2))
            table = closed_laid(talk)
            if table is None:
                continue
            seen += 1
            self.assertSays(True, is_closed, talk, table)
            for at, (a, b, words) in enumerate(table):
                for word in WORDS[dict(things)[a], dict(things)[b]]:
                    if word not in words:
                        more = table[:at] + ((a, b, in_order(words + (word,))),) + table[at + 1:]
                        self.assertSays(False, is_closed, talk, more)

    def test_against_the_tests_own(self):
        dice = random.Random(362)
        told = {True: 0, False: 0}
        for at in range(400):
            things = some_things(dice, dice.randrange(2, 5))
            talk = some_talk(dice, things, dice.randrange(3), dice.randrange(2))
            table = some_table(dice, things, 0.93)
            wanted = is_closed_laid(talk, table)
            told[wanted] += 1
            self.assertSays(wanted, is_closed, talk, table)
        self.assertGreater(min(told.values()), 20)


class AsTalk(Case):
    def test_rows_of_all_words_are_left_out(self):
        self.assertExactly(as_talk(THINGS, TABLE), (THINGS, (
            ("may", "a", "b", ("ahead", "begins")), ("may", "a", "c", ("within",)),
            ("may", "b", "c", ("meets", "overlaps", "met")), ("may", "b", "d", ("holds", "begun")),
            ("may", "c", "d", ("ended",)))))
        self.assertExactly(as_talk((("a", S),), ()), ((("a", S),), ()))
        for kinds in WORDS:
            things = (("a", kinds[0]), ("b", kinds[1]))
            self.assertExactly(as_talk(things, (("a", "b", WORDS[kinds]),)), (things, ()))
            for word in WORDS[kinds]:
                others = tuple(chosen for chosen in WORDS[kinds] if chosen != word)
                self.assertExactly(as_talk(things, (("a", "b", others),)), (things, (("may", "a", "b", others),)))

    def test_six_things(self):
        dice = random.Random(39)
        for at in range(30):
            things = some_things(dice, 6)
            table = some_table(dice, things, 0.95)
            talk = as_talk(things, table)
            self.assertSays(True, is_talk, talk)
            for a, b, words in table:
                self.assertEqual(in_order(mays_said(talk)[a, b]), words)
            self.assertEqual([saying[1:] for saying in talk[1]],
                             [row for row in table if row[2] != WORDS[dict(things)[row[0]], dict(things)[row[1]]]])


if __name__ == "__main__":
    unittest.main()
