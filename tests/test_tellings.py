"""Points 17, 18, 19, 24: things, tellings and tables of them."""

import itertools
import random
import unittest
from fractions import Fraction

from whens.tellings import is_table, is_telling, is_things, kinds_of, moved, table_of, telling_by

from layouts import ALL_KINDS, ALL_THREE_KINDS, ODD, ORDER, WORDS, Case, pair
from oracle import behind_laid, some_things, some_telling, word_in

P, S = "point", "stretch"
MIXED = (("a", P), ("b", S), ("c", S))


def table_laid(things, telling):
    """The table of a telling, by the document's meaning of the words."""
    return tuple((a, b, (word_in(things, telling, a, b),))
                 for (a, one), (b, other) in itertools.combinations(things, 2))


def with_part(thing, at, part):
    """A tuple with another part at a place."""
    return thing[:at] + (part,) + thing[at + 1:]


class Things(Case):
    def test_one_to_six(self):
        names = ("a", "ab", "abc", "b", "bbbbbbbb", "zz")
        for many in range(1, 7):
            for kinds in itertools.product((P, S), repeat=many):
                self.assertSays(True, is_things, tuple(zip(names, kinds)))

    def test_none_and_seven(self):
        self.assertSays(False, is_things, ())
        self.assertSays(False, is_things, tuple((name, P) for name in "abcdefg"))
        self.assertSays(False, is_things, tuple((name, S) for name in "abcdefghijkl"))

    def test_names(self):
        for name in ("a", "z", "abcdefgh", "zzzzzzzz", "point", "m"):
            self.assertSays(True, is_things, ((name, S),))
        for name in ("", "abcdefghi", "A", "aB", "a1", "1", "a b", " a", "a ", "a.", "a_b", "-", "`", "{", "a~", "z{",
                     None, True, 0, ("a",), ["a"], b"a"):
            self.assertSays(False, is_things, ((name, P),))
            self.assertSays(False, is_things, (("a", S), (name, P)))

    def test_names_rise(self):
        for names in (("b", "a"), ("a", "a"), ("ab", "a"), ("a", "c", "b"), ("b", "c", "a"), ("a", "b", "b"),
                      ("z", "aa"), ("a", "b", "c", "d", "f", "e")):
            self.assertSays(False, is_things, tuple((name, P) for name in names))
        for names in (("a", "aa"), ("ab", "b"), ("abc", "abd"), ("aab", "ab", "b")):
            self.assertSays(True, is_things, tuple((name, P) for name in names))
        self.assertSays(False, is_things, (("a", P), ("a", S)))

    def test_kinds(self):
        for kind in ("Point", "points", "", "stretch ", "pointstretch", None, True, 0, ("point",), ["point"]):
            self.assertSays(False, is_things, (("a", kind),))
            self.assertSays(False, is_things, (("a", P), ("b", kind)))

    def test_parts(self):
        for thing in ([("a", P)], (["a", P],), (("a", P), ["b", S]), (("a",),), (("a", P, S),), ((P, "a"),), ("a", P),
                      ("ap",), (("a", P), ()), (("a", P), None), ((("a", P),),), {"a": P}.get("b")):
            self.assertSays(False, is_things, thing)

    def test_plain_things_of_all_sorts(self):
        for thing in ODD:
            self.assertSays(False, is_things, thing)
            self.assertSays(False, is_things, (thing,))

    def test_kinds_of(self):
        self.assertExactly(kinds_of(MIXED, "a", "b"), (P, S))
        self.assertExactly(kinds_of(MIXED, "b", "a"), (S, P))
        self.assertExactly(kinds_of(MIXED, "c", "b"), (S, S))
        self.assertExactly(kinds_of((("a", P), ("ab", S)), "ab", "a"), (S, P))


class Tellings(Case):
    good = ((-1, 2), ((0, 1), (1, 3)), ((-7, 3), (10 ** 39, 7)))

    def test_tellings(self):
        self.assertSays(True, is_telling, MIXED, self.good)
        self.assertSays(True, is_telling, (("a", P),), ((0, 1),))
        self.assertSays(True, is_telling, (("a", S),), (((1, 3), (1, 2)),))
        self.assertSays(True, is_telling, (("a", S), ("b", S)), (((0, 1), (1, 1)),) * 2)

    def test_begin_below_end(self):
        for begin, end in (((1, 2), (1, 2)), ((1, 2), (1, 3)), ((0, 1), (-1, 9)), ((1, 1), (0, 1))):
            self.assertSays(False, is_telling, (("a", S),), ((begin, end),))
        self.assertSays(False, is_telling, MIXED, with_part(self.good, 2, ((10 ** 39, 7), (10 ** 39, 7))))

    def test_parts_too_many_and_too_few(self):
        for thing in ((), self.good[:2], self.good[1:], self.good + ((0, 1),), (self.good,), self.good * 2):
            self.assertSays(False, is_telling, MIXED, thing)
        self.assertSays(False, is_telling, (("a", P),), ((0, 1), (0, 1)))
        self.assertSays(False, is_telling, (("a", P),), (0, 1))
        self.assertSays(False, is_telling, (("a", S),), ((0, 1), (1, 1)))
        self.assertSays(False, is_telling, (("a", S),), (((0, 1), (1, 1), (2, 1)),))
        self.assertSays(False, is_telling, (("a", S),), (((0, 1),),))

    def test_of_another_thing(self):
        self.assertSays(False, is_telling, MIXED, (self.good[1], self.good[0], self.good[2]))
        self.assertSays(False, is_telling, MIXED, with_part(self.good, 0, ((0, 1), (1, 1))))
        self.assertSays(False, is_telling, MIXED, with_part(self.good, 1, (0, 1)))
        self.assertSays(False, is_telling, MIXED, with_part(self.good, 1, (0, 2)))

    def test_no_fractions(self):
        wrong = ((2, 4), (0, 2), (1, 0), (1, -2), (True, 1), (1, True), [1, 2], 1, None, "1/2", (1,), (1, 2, 3), ("1", 2),
                 True, (), ((1, 2),), (None, 1))
        for part in wrong + ODD:
            self.assertSays(False, is_telling, MIXED, with_part(self.good, 0, part))
            self.assertSays(False, is_telling, MIXED, with_part(self.good, 1, (part, (9, 1))))
            self.assertSays(False, is_telling, MIXED, with_part(self.good, 1, ((-9, 1), part)))
            self.assertSays(False, is_telling, MIXED, with_part(self.good, 2, part))

    def test_lists_for_tuples(self):
        self.assertSays(False, is_telling, MIXED, list(self.good))
        self.assertSays(False, is_telling, MIXED, with_part(self.good, 0, [-1, 2]))
        self.assertSays(False, is_telling, MIXED, with_part(self.good, 1, [(0, 1), (1, 3)]))
        self.assertSays(False, is_telling, MIXED, with_part(self.good, 1, ([0, 1], (1, 3))))
        self.assertSays(False, is_telling, MIXED, with_part(self.good, 1, ((0, 1), [1, 3])))

    def test_plain_things_of_all_sorts(self):
        for thing in ODD:
            self.assertSays(False, is_telling, MIXED, thing)
            self.assertSays(False, is_telling, (("a", P),), (thing,))
            self.assertSays(False, is_telling, (("a", S),), (thing,))


class Tables(Case):
    good = (("a", "b", ("ahead", "within")), ("a", "c", ()), ("b", "c", ORDER))

    def test_tables(self):
        self.assertSays(True, is_table, MIXED, self.good)
        for things in (MIXED, (("a", P), ("b", P), ("x", S), ("y", S), ("z", P)), (("k", S), ("l", P))):
            pairs = list(itertools.combinations(things, 2))
            self.assertSays(True, is_table, things, tuple((a, b, WORDS[k, j]) for (a, k), (b, j) in pairs))
            self.assertSays(True, is_table, things, tuple((a, b, ()) for (a, k), (b, j) in pairs))
            self.assertSays(True, is_table, things, tuple((a, b, ("ahead", "behind")) for (a, k), (b, j) in pairs))

    def test_of_one_thing(self):
        for kind in (P, S):
            self.assertSays(True, is_table, (("a", kind),), ())
            for thing in ([], None, False, "", ((),), (("a", "a", ()),), (("a", "a", ("same",)),)):
                self.assertSays(False, is_table, (("a", kind),), thing)

    def test_rows_left_out_twice_exchanged(self):
        one, two, three = self.good
        for thing in ((), (one,), (one, two), (two, three), (one, three), (one, one, two, three), (one, two, three, three),
                      (one, one, three), (two, one, three), (three, two, one), (one, three, two), (self.good,),
                      self.good + ((),), self.good + (("c", "a", ()),)):
            self.assertSays(False, is_table, MIXED, thing)

    def test_names(self):
        for at, row in enumerate(self.good):
            a, b, words = row
            for names in ((b, a), (a, a), (b, b), (a, "d"), ("d", b), ("", b), (a, None), ((a,), b), (a, [b]), (a + b, b),
                          (0, 1), ("A", b)):
                self.assertSays(False, is_table, MIXED, with_part(self.good, at, names + ((),)))

    def test_mays(self):
        for at, kinds in enumerate(((P, S), (P, S), (S, S))):
            a, b, words = self.good[at]
            for word in ORDER:
                self.assertSays(word in WORDS[kinds], is_table, MIXED, with_part(self.good, at, (a, b, (word,))))
            for may in (["ahead"], [], "ahead", "", None, True, ("behind", "ahead"), ("ahead", "ahead"), ("ahead", True),
                        ("ahead", None), ("x",), (("ahead",),), (0,)) + ODD:
                self.assertSays(False, is_table, MIXED, with_part(self.good, at, (a, b, may)))

    def test_lists_and_parts(self):
        self.assertSays(False, is_table, MIXED, list(self.good))
        for at, row in enumerate(self.good):
            for part in (list(row), row[:2], row + ((),), row[1:], (), None, True, "abc", (row,)):
                self.assertSays(False, is_table, MIXED, with_part(self.good, at, part))

    def test_plain_things_of_all_sorts(self):
        for thing in ODD:
            self.assertSays(False, is_table, MIXED, thing)
            self.assertSays(False, is_table, (("a", P), ("b", S)), (thing,))


class Words(Case):
    def test_table_of_tellings(self):
        dice = random.Random(18)
        for many in range(1, 7):
            for at in range(60):
                things = some_things(dice, many)
                telling = some_telling(dice, things)
                self.assertExactly(table_of(things, telling), table_laid(things, telling))

    def test_table_of_one(self):
        self.assertExactly(table_of((("a", P),), ((5, 7),)), ())

    def check_telling(self, things, table, can):
        found = telling_by(things, table)
        if not can:
            self.assertIsNone(found, (things, table))
            return
        self.assertIsInstance(found, tuple)
        self.assertSays(True, is_telling, things, found)
        self.assertExactly(table_laid(things, found), table)

    def test_telling_by_one_and_two(self):
        self.check_telling((("a", P),), (), True)
        self.check_telling((("a", S),), (), True)
        for kinds in ALL_KINDS:
            for word in WORDS[kinds]:
                self.check_telling((("a", kinds[0]), ("b", kinds[1])), (("a", "b", (word,)),), True)

    def test_telling_by_each_three_words(self):
        for kinds in ALL_THREE_KINDS:
            things = tuple(zip("abc", kinds))
            for one, other in itertools.product(WORDS[kinds[:2]], WORDS[kinds[1:]]):
                can = behind_laid(kinds, one, other)
                for third in WORDS[kinds[0], kinds[2]]:
                    table = (("a", "b", (one,)), ("a", "c", (third,)), ("b", "c", (other,)))
                    self.check_telling(things, table, third in can)

    def test_telling_by_more(self):
        dice = random.Random(19)
        for at in range(400):
            things = some_things(dice, dice.randrange(4, 7))
            table = table_laid(things, some_telling(dice, things))
            self.check_telling(things, table, True)
            row = dice.randrange(len(table))
            a, b, words = table[row]
            kinds = dict(things)
            other = with_part(table, row, (a, b, (dice.choice(WORDS[kinds[a], kinds[b]]),)))
            self.check_telling(things, other, self.each_three_fit(things, other))

    def each_three_fit(self, things, table):
        # Single words of which each three things' can be together can all be together.
        words = {(a, b): may[0] for a, b, may in table}
        for (a, k), (b, l), (c, m) in itertools.combinations(things, 3):
            if words[a, c] not in behind_laid((k, l, m), words[a, b], words[b, c]):
                return False
        return True

    def test_a_round_of_points(self):
        things = (("a", P), ("b", P), ("c", P))
        self.check_telling(things, (("a", "b", ("ahead",)), ("a", "c", ("behind",)), ("b", "c", ("ahead",))), False)
        self.check_telling(things, (("a", "b", ("same",)), ("a", "c", ("ahead",)), ("b", "c", ("same",))), False)


class Moved(Case):
    def test_written_out(self):
        self.assertExactly(moved(MIXED, ((1, 2), ((0, 1), (1, 3)), ((-1, 2), (4, 1))), (2, 3), (1, 6)),
                           ((1, 2), ((1, 6), (7, 18)), ((-1, 6), (17, 6))))
        self.assertExactly(moved((("a", P),), ((0, 1),), (7, 1), (-4, 1)), ((-4, 1),))
        self.assertExactly(moved((("a", S),), (((0, 1), (1, 1)),), (1, 1), (0, 1)), (((0, 1), (1, 1)),))

    def test_times_are_multiplied_then_added_and_words_stay(self):
        dice = random.Random(24)
        for at in range(200):
            things = some_things(dice, dice.randrange(1, 7))
            telling = some_telling(dice, things)
            times = Fraction(dice.randrange(1, 10 ** 6), dice.randrange(1, 10 ** 6))
            more = Fraction(dice.randrange(-10 ** 6, 10 ** 6), dice.randrange(1, 10 ** 6))
            found = moved(things, telling, pair(times), pair(more))
            wanted = []
            for (name, kind), old in zip(things, telling):
                new = [pair(Fraction(*time) * times + more) for time in ((old,) if kind == P else old)]
                wanted.append(new[0] if kind == P else tuple(new))
            self.assertExactly(found, tuple(wanted))
            self.assertExactly(table_of(things, found), table_of(things, telling))


if __name__ == "__main__":
    unittest.main()
