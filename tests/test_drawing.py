"""Points 79 and 80: tellings drawn as texts, and drawings read, or refused with where they can't stand."""

import copy
import itertools
import random
import unittest
from fractions import Fraction

from whens.drawing import drawn, read_drawing
from whens.errors import NoText
from whens.tellings import is_telling, is_things

from layouts import Case
from oracle import some_telling, some_things

P, S = "point", "stretch"
THINGS = (("a", P), ("s", S), ("t", S))
TELLING = ((1, 2), ((-1, 1), (7, 3)), ((1, 2), (2, 1)))
DRAWN = ["a .o..", "s [==]", "t .[].", "@ -1 1/2 2 7/3"]


def shown(time):
    return f"{time.numerator}/{time.denominator}" if time.denominator > 1 else f"{time.numerator}"


def drawn_laid(things, telling):
    """The drawing by the document's words, sign by sign."""
    ends = []
    for (name, kind), times in zip(things, telling):
        two = (times, times) if kind == P else times
        ends.append((name, kind, Fraction(*two[0]), Fraction(*two[1])))
    columns = sorted({time for name, kind, begin, end in ends for time in (begin, end)})
    rows = []
    for name, kind, begin, end in ends:
        signs = ""
        for time in columns:
            if kind == P:
                signs += "o" if time == begin else "."
            elif time == begin:
                signs += "["
            elif time == end:
                signs += "]"
            else:
                signs += "=" if begin < time < end else "."
        rows.append(f"{name} {signs}")
    return rows + [" ".join(["@"] + [shown(time) for time in columns])]


def far_telling(dice, things):
    """Times near to one another and far off, of few figures and of many."""
    pool = [Fraction(dice.randrange(-10 ** many, 10 ** many), dice.choice((1, 1, 3, 10 ** many + 1)))
            for many in (1, 1, 2, 9, 60, 199) for at in range(2)]
    pool += [Fraction(0), Fraction(1, 10 ** 100), Fraction(-1, 10 ** 100)]
    found = []
    for name, kind in things:
        low, high = sorted(dice.sample(sorted(set(pool)), 2))
        pairs = ((low.numerator, low.denominator), (high.numerator, high.denominator))
        found.append(pairs[0] if kind == P else pairs)
    return tuple(found)


class Drawn(Case):
    def test_written_out(self):
        before = copy.deepcopy((THINGS, TELLING))
        self.assertExactly(drawn(THINGS, TELLING), DRAWN)
        self.assertExactly((THINGS, TELLING), before)
        self.assertExactly(drawn((("a", P),), ((0, 1),)), ["a o", "@ 0"])
        self.assertExactly(drawn((("a", P),), ((-5, 7),)), ["a o", "@ -5/7"])
        self.assertExactly(drawn((("long", S),), (((-3, 1), (-1, 2)),)), ["long []", "@ -3 -1/2"])
        self.assertExactly(drawn((("a", S), ("b", S)), (((0, 1), (10, 1)), ((0, 1), (10, 1)))), ["a []", "b []", "@ 0 10"])
        self.assertExactly(drawn((("a", P), ("b", P)), ((1, 1), (1, 1))), ["a o", "b o", "@ 1"])
        self.assertExactly(drawn((("a", P), ("b", P)), ((1, 1), (99, 100))), ["a .o", "b o.", "@ 99/100 1"])
        six = tuple((name, P) for name in "abcdef")
        self.assertExactly(drawn(six, tuple((5 - at, 1) for at in range(6))), [
            "a .....o", "b ....o.", "c ...o..", "d ..o...", "e .o....", "f o.....", "@ 0 1 2 3 4 5"])

    def test_many(self):
        dice = random.Random(79)
        for at in range(250):
            things = some_things(dice, dice.randrange(1, 7))
            telling = dice.choice((some_telling, far_telling))(dice, things)
            lines = drawn(things, telling)
            self.assertExactly(lines, drawn_laid(things, telling))
            self.assertExactly(read_drawing(lines), (things, telling))

    def test_two_hundred_figures(self):
        top, bottom = 10 ** 200 - 1, 10 ** 199 + 7
        telling = (((-top, bottom), (top, 1)),)
        self.assertExactly(drawn((("a", S),), telling), ["a []", f"@ -{top}/{bottom} {top}"])
        self.assertExactly(read_drawing(drawn((("a", S),), telling)), ((("a", S),), telling))

    def test_lists_of_ones_own(self):
        first = drawn(THINGS, TELLING)
        first[0] = "x"
        first.append("y")
        self.assertExactly(drawn(THINGS, TELLING), DRAWN)


class Read(Case):
    def refused(self, row, word, lines):
        before = list(lines)
        with self.assertRaises(NoText) as caught:
            read_drawing(lines)
        self.assertExactly((caught.exception.row, caught.exception.word, lines), (row, word, before))

    def test_read(self):
        self.assertExactly(read_drawing(list(DRAWN)), (THINGS, TELLING))
        self.assertExactly(read_drawing(["abcdefgh o", "@ 0"]), ((("abcdefgh", P),), ((0, 1),)))
        self.assertExactly(read_drawing(["a [=].", "b .[=]", "@ 1 2 3 4"]),
                           ((("a", S), ("b", S)), (((1, 1), (3, 1)), ((2, 1), (4, 1)))))

    def test_rows_that_lack(self):
        for many in range(4):
            self.refused(many, 0, DRAWN[:many])
        six = [f"{name} o" for name in "abcdef"]
        self.refused(6, 0, six)
        self.assertExactly(len(read_drawing(six + ["@ 0"])[0]), 6)

    def test_first_words(self):
        for first in ("", "A", "O", "a1", "abcdefghi", "@", "[", "a.", "-", "aB", "a@", "@a", "@@"):
            self.refused(0, 0, [first + " .o.."] + DRAWN[1:])
        self.refused(0, 0, ["@ -1 1/2 2 7/3"])
        self.refused(0, 0, ["@"])
        self.refused(0, 0, [""])
        self.refused(0, 0, [" a .o.."] + DRAWN[1:])
        for first in ("a", "A", "", "@@", "s1", "aaaaaaaaa", "@s"):
            self.refused(1, 0, DRAWN[:1] + [first + " [==]"] + DRAWN[2:])
            self.refused(1, 0, DRAWN[:1] + [first])
        # Names have to be above the one ahead, not only unlike.
        self.refused(2, 0, DRAWN[:2] + ["b .[]."] + DRAWN[3:])
        self.refused(2, 0, DRAWN[:2] + ["s .[]."] + DRAWN[3:])
        self.refused(3, 0, DRAWN[:3] + ["-1 1/2 2 7/3"])
        self.refused(3, 0, DRAWN[:3] + [" @ -1 1/2 2 7/3"])

    def test_the_seventh_thing(self):
        six = [f"{name} o" for name in "abcdef"]
        self.refused(6, 0, six + ["g o", "@ 0"])
        self.refused(6, 0, six + ["g", "@ 0"])
        self.refused(6, 0, six + [""])

    def test_signs(self):
        for signs in ("", "oo..", "....", ".o", ".o...", ".O..", ".0..", "[..]", "[=.]", "[===", "===]", "]==[", "[==[",
                      "]==]", "[o=]", "o[]", "[]o.", "[][]", "[=]]", "[[=]", ".==.", "....o", "[==].", ".[]", "[=]",
                      "[=-]", "[,,]", "..o,", "=o==", ".[.]", "=[].", "[]=.", "[]..]"):
            if signs in (".o", "[=]", ".[]", ".o...", "....o", "[==].", "o[]"):
                self.refused(1, 1, DRAWN[:1] + ["s " + signs] + DRAWN[2:])
            else:
                for at in (0, 1, 2):
                    name = "ast"[at]
                    self.refused(at, 1, DRAWN[:at] + [f"{name} {signs}"] + DRAWN[at + 1:])

    def test_not_as_many_as_the_first_rows(self):
        self.refused(1, 1, ["a .o.", "s [==]", "t .[].", "@ -1 1/2 2 7/3"])
        self.refused(2, 1, DRAWN[:2] + ["t .[]"] + DRAWN[3:])
        self.refused(2, 1, DRAWN[:2] + ["t .[].."] + DRAWN[3:])

    def test_a_third_word(self):
        for at in (0, 1, 2):
            self.refused(at, 2, DRAWN[:at] + [DRAWN[at] + " "] + DRAWN[at + 1:])
            self.refused(at, 2, DRAWN[:at] + [DRAWN[at] + " x y"] + DRAWN[at + 1:])
            self.refused(at, 1, DRAWN[:at] + [DRAWN[at].replace(" ", "  ")] + DRAWN[at + 1:])

    def test_words_that_lack(self):
        for at in (0, 1, 2):
            self.refused(at, 1, DRAWN[:at] + ["ast"[at]] + DRAWN[at + 1:])
            self.refused(at, 1, DRAWN[:at] + ["ast"[at] + " "] + DRAWN[at + 1:])
        for many in range(4):
            self.refused(3, 1 + many, DRAWN[:3] + [" ".join(DRAWN[3].split(" ")[:1 + many])])

    def test_times(self):
        words = DRAWN[3].split(" ")
        for bad in ("", "x", "-", "+1", "01", "00", "-0", "0/1", "1/1", "2/4", "4/2", "-2/4", "1/0", "1/-2", "1//2", "/2",
                    "1/", "--1", "1/02", "1.5", "1e3", "@", "o", "1_0", "1/2/3", "0/5", "-0/7", "-00", "1/+2", ".5"):
            for at in range(1, 5):
                self.refused(3, at, DRAWN[:3] + [" ".join(words[:at] + [bad] + words[at + 1:])])

    def test_times_that_do_not_rise(self):
        for times, at in (("-1 1/2 1/2 7/3", 3), ("-1 -1 2 7/3", 2), ("-1 1/2 7/3 2", 4), ("-1 -2 2 7/3", 2),
                          ("-1 1/2 2 2", 4), ("-1 1/2 2 1999999/1000000", 4), ("0 -1/2 1 2", 2), ("-1/2 -2/3 1 2", 2)):
            self.refused(3, at, DRAWN[:3] + ["@ " + times])
        self.assertExactly(read_drawing(DRAWN[:3] + ["@ -2/3 -1/2 1 1000001/1000000"])[1][0], (-1, 2))

    def test_columns_without_an_end(self):
        self.refused(2, 2, ["a o...", "s [==]", "@ 1 2 3 4"])
        self.refused(2, 3, ["a .o..", "s [==]", "@ 1 2 3 4"])
        self.refused(1, 1, ["a .o", "@ 1 2"])
        self.refused(1, 2, ["a o.", "@ 1 2"])
        self.refused(1, 2, ["a [=]", "@ 1 2 3"])
        # The first word that can't stand, for whichever reason.
        self.refused(1, 2, ["a [=]", "@ 1 x 3"])
        self.refused(1, 1, ["a [=]", "@ x 2 3"])
        self.refused(1, 2, ["a [=]", "@ 1 0 3"])

    def test_a_time_too_many(self):
        self.refused(3, 5, DRAWN[:3] + [DRAWN[3] + " 9"])
        self.refused(3, 5, DRAWN[:3] + [DRAWN[3] + " "])
        self.refused(3, 5, DRAWN[:3] + [DRAWN[3] + " x y"])
        self.refused(1, 2, ["a o", "@ 0 1"])

    def test_any_row_behind(self):
        for row in ("", "x", "u [==]", "@ 1 2 3 4", DRAWN[3], "u"):
            self.refused(4, 0, DRAWN + [row])
            self.refused(4, 0, DRAWN + [row, row])
        self.refused(2, 0, ["a o", "@ 0", "b o"])

    def test_the_first_of_several(self):
        self.refused(0, 1, ["a", "S", "@"])
        self.refused(1, 0, ["a o", "A oo x", "@ x", "y"])
        self.refused(1, 1, ["a o", "b oo x", "@ x", "y"])
        self.refused(1, 2, ["a o", "b o x", "@ x", "y"])
        self.refused(2, 1, ["a o", "b o", "@ x y", "y"])
        self.refused(2, 2, ["a o", "b o", "@ 1 y", "y"])
        self.refused(2, 1, ["a o", "b o", "@", "y"])
        self.refused(3, 0, ["a o", "b o", "@ 1", "y"])

    def test_two_hundred_figures_and_one_more(self):
        most, more = "9" * 200, "1" + "0" * 200
        self.assertExactly(read_drawing(["a o", f"@ {most}"]), ((("a", P),), ((int(most), 1),)))
        self.assertExactly(read_drawing(["a o", f"@ -{most}"]), ((("a", P),), ((-int(most), 1),)))
        self.assertExactly(read_drawing(["a o", f"@ 1/{most}"]), ((("a", P),), ((1, int(most)),)))
        for bad in (more, "-" + more, "1/" + more, more + "/3", more + "/" + more, "-1/" + more, "9" * 5000, "1/" + "9" * 5000,
                    "0" + most, "1/0" + most):
            self.refused(1, 1, ["a o", "@ " + bad])

    def test_read_and_drawn_again(self):
        dice = random.Random(80)
        told = {"read": 0, "refused": 0}
        for at in range(1500):
            things = some_things(dice, dice.randrange(1, 4))
            lines = drawn(things, some_telling(dice, things))
            self.assertExactly(drawn(*read_drawing(lines)), lines)
            place = dice.randrange(len(lines))
            line = lines[place]
            spot = dice.randrange(len(line) + 1)
            sign = dice.choice("o[]=. @a0123/-")
            line = dice.choice((line[:spot] + line[spot + 1:], line[:spot] + sign + line[spot:],
                                line[:spot] + sign + line[spot + 1:]))
            lines[place] = line
            try:
                found = read_drawing(lines)
            except NoText as error:
                told["refused"] += 1
                self.assertLessEqual(error.row, len(lines))
                self.assertIs(type(error.row), int)
                self.assertIs(type(error.word), int)
                continue
            told["read"] += 1
            self.assertSays(True, is_things, found[0])
            self.assertSays(True, is_telling, found[0], found[1])
            self.assertExactly(drawn(*found), lines)
        self.assertGreater(min(told.values()), 100)

    def test_any_texts(self):
        dice = random.Random(801)
        words = ["", "a", "b", "zz", "@", "o", "[]", "[=]", ".o", "o.", "1", "2", "0", "-1/2", "x1"]
        for at in range(3000):
            lines = [" ".join(dice.choice(words) for place in range(dice.randrange(1, 4))) for row in range(dice.randrange(4))]
            try:
                self.assertExactly(drawn(*read_drawing(lines)), lines)
            except NoText as error:
                self.assertTrue(0 <= error.row <= len(lines))
                if error.row == len(lines):
                    self.assertEqual(error.word, 0)
                else:
                    self.assertTrue(0 <= error.word <= len(lines[error.row].split(" ")))
                # All rows ahead of it can stand: without it and all behind, rows lack, or nothing does.
                if "@" not in [line[:1] for line in lines[:error.row]]:
                    self.refused(error.row, 0, lines[:error.row])
                else:
                    self.assertExactly(drawn(*read_drawing(lines[:error.row])), lines[:error.row])

    def test_signs_of_each_form(self):
        for signs in map("".join, itertools.product(".o[]=", repeat=4)):
            ends = [at for at, sign in enumerate(signs) if sign in "o[]"]
            point = signs.count("o") == 1 and set(signs) <= set(".o")
            stretch = False
            for begin, end in itertools.combinations(range(4), 2):
                stretch = stretch or signs == "." * begin + "[" + "=" * (end - begin - 1) + "]" + "." * (3 - end)
            lines = ["a " + signs, "b o...", "c .o..", "d ..o.", "e ...o", "@ 1 2 3 4"]
            if point or stretch:
                things, telling = read_drawing(lines)
                self.assertEqual(things[0], ("a", P if point else S))
                times = tuple((1 + at, 1) for at in ends)
                self.assertExactly(telling[0], times[0] if point else times)
            else:
                self.refused(0, 1, lines)


if __name__ == "__main__":
    unittest.main()
