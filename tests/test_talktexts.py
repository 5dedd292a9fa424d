"""Points 21, 22, 23: talks and sayings as texts, and what can not be read."""

import random
import unittest

from whens.errors import NoText
from whens.talks import is_talk
from whens.talktexts import read_saying, read_talk, shown_saying, shown_talk

from layouts import ORDER, WORDS, Case
from oracle import some_saying, some_things

P, S = "point", "stretch"
THINGS = (("a", P), ("ab", S), ("b", P), ("end", S))
HEAD = ["point a", "stretch ab", "point b", "stretch end"]
SAID = (
    (("may", "a", "ab", ("ahead",)), "may a ab ahead"),
    (("may", "ab", "a", ("ahead", "ended", "holds")), "may ab a ahead ended holds"),
    (("may", "end", "ab", ORDER), "may end ab " + " ".join(ORDER)),
    (("may", "b", "a", ("same",)), "may b a same"),
    (("gap", ("a", 0), ("b", 0), (5, 1), False), "gap a b 5"),
    (("gap", ("a", 0), ("b", 0), (5, 1), True), "gap a b 5 strict"),
    (("gap", ("ab", 0), ("ab", 1), (-3, 2), False), "gap ab.begin ab.end -3/2"),
    (("gap", ("end", 1), ("a", 0), (0, 1), True), "gap end.end a 0 strict"),
    (("gap", ("end", 0), ("end", 1), (-999999, 1), True), "gap end.begin end.end -999999 strict"),
    (("gap", ("b", 0), ("ab", 1), (999999, 999998), False), "gap b ab.end 999999/999998"),
    (("gap", ("b", 0), ("a", 0), (-10, 100001), False), "gap b a -10/100001"),
)


class Shown(Case):
    def test_sayings_sign_by_sign(self):
        for saying, text in SAID:
            self.assertExactly(shown_saying(THINGS, saying), text)

    def test_talks_sign_by_sign(self):
        sayings = tuple(saying for saying, text in SAID)
        self.assertExactly(shown_talk((THINGS, sayings)), HEAD + [text for saying, text in SAID])
        self.assertExactly(shown_talk((THINGS, ())), HEAD)
        self.assertExactly(shown_talk(((("zzzzzzzz", S),), ())), ["stretch zzzzzzzz"])
        self.assertExactly(shown_talk((THINGS, sayings[::-1])), HEAD + [text for saying, text in SAID][::-1])

    def test_the_list_is_the_askers_own(self):
        talk = (THINGS, (SAID[0][0],))
        shown_talk(talk).clear()
        self.assertExactly(shown_talk(talk), HEAD + ["may a ab ahead"])


class Read(Case):
    def refused(self, row, word, rows):
        before = list(rows)
        with self.assertRaises(NoText, msg=rows) as caught:
            read_talk(rows)
        self.assertExactly((caught.exception.row, caught.exception.word), (row, word))
        self.assertExactly(rows, before)

    def refused_saying(self, word, text):
        with self.assertRaises(NoText, msg=text) as caught:
            read_saying(THINGS, text)
        self.assertExactly((caught.exception.row, caught.exception.word), (0, word))
        self.refused(4, word, HEAD + [text])
        self.refused(5, word, HEAD + ["gap a b 1", text, "may a a"])

    def test_read_again_the_same(self):
        dice = random.Random(22)
        for at in range(300):
            things = some_things(dice, dice.randrange(1, 7))
            many = dice.randrange(25) if len(things) > 1 else 0
            talk = (things, tuple(some_saying(dice, things) for at in range(many)))
            rows = shown_talk(talk)
            self.assertExactly(read_talk(rows), talk)
            for saying, text in zip(talk[1], rows[len(things):]):
                self.assertExactly(read_saying(things, text), saying)
                self.assertExactly(shown_saying(things, saying), text)

    def test_read_written_out(self):
        self.assertExactly(read_talk(HEAD), (THINGS, ()))
        self.assertExactly(read_talk(["point a"]), ((("a", P),), ()))
        self.assertExactly(read_talk(HEAD + [text for saying, text in SAID]), (THINGS, tuple(s for s, text in SAID)))
        for saying, text in SAID:
            self.assertExactly(read_saying(THINGS, text), saying)

    def test_what_is_handed_in_is_not_changed(self):
        rows = HEAD + ["gap a b 1"]
        read_talk(rows)
        self.assertExactly(rows, HEAD + ["gap a b 1"])

    def test_no_row(self):
        self.refused(0, 0, [])

    def test_first_words(self):
        for text in ("", " ", "Point a", "points a", "pointa", " point a", "a", "thing a", "pointstretch a", "a point"):
            self.refused(0, 0, [text])
            self.refused(4, 0, HEAD + [text])
            self.refused(5, 0, HEAD + ["gap a b 1", text])
        for text in ("may", "gap", "may a b same", "gap a b 1", "may x x", "gap"):
            self.refused(0, 0, [text])
        for text in ("strict", "Gap a b 1", "mays a b same", "may.a b same", "", " may a b same", "MAY a b same"):
            self.refused(4, 0, HEAD + [text])

    def test_things_behind_a_saying(self):
        self.refused(5, 0, HEAD + ["gap a b 1", "point x"])
        self.refused(6, 0, HEAD + ["gap a b 1", "may a b same", "stretch zz", "rubbish"])
        self.refused(5, 0, HEAD + ["gap a b 1", "point"])

    def test_a_seventh_thing(self):
        six = [f"point {name}" for name in "abcdef"]
        self.assertExactly(read_talk(six), (tuple((name, P) for name in "abcdef"), ()))
        self.refused(6, 0, six + ["point g"])
        self.refused(6, 0, six + ["stretch"])
        self.refused(6, 0, six + ["point a"])
        self.refused(5, 1, six[:5] + ["point e", "point g"])

    def test_a_twenty_fifth_saying(self):
        rows = HEAD + ["gap a b 1", "may a b same"] * 12
        self.assertSays(True, is_talk, read_talk(rows))
        self.assertEqual(len(read_talk(rows)[1]), 24)
        for text in ("gap a b 1", "may a b same", "may", "gap x", "point z"):
            self.refused(28, 0, rows + [text])
        self.refused(27, 2, rows[:27] + ["may a a", "gap a b 1"])

    def test_names_of_things(self):
        for kind in (P, S):
            for name in ("", "A", "abcdefghi", "a1", "a.", "a-b", "a/b", "~"):
                self.refused(0, 1, [f"{kind} {name}"])
                self.refused(0, 1, [f"{kind} {name} {name}"])
            for name in ("a", "ab", "b", "end", "aa", "d"):
                self.refused(4, 1, HEAD + [f"{kind} {name}"])
            self.assertExactly(read_talk(HEAD + [f"{kind} ende"])[0], THINGS + (("ende", kind),))
            self.refused(0, 1, [kind])
            self.refused(0, 1, [f"{kind} "])
            self.refused(0, 1, [f"{kind}  a"])
            self.refused(0, 2, [f"{kind} a "])
            self.refused(0, 2, [f"{kind} a b"])
            self.refused(0, 2, [f"{kind} a  b"])
            self.refused(0, 2, [f"{kind} a point b"])
            self.refused(4, 1, HEAD + [kind])
        self.refused(1, 1, ["point b", "point a", "point a"])
        self.refused(1, 1, ["point ab", "stretch a"])

    def test_names_of_mays(self):
        for text, word in (("may", 1), ("may ", 1), ("may x", 1), ("may a", 2), ("may a ", 2), ("may a a", 2),
                           ("may a a same", 2), ("may a x", 2), ("may x a same", 1), ("may x x", 1), ("may  a b same", 1),
                           ("may a  b same", 2), ("may a.begin b same", 1), ("may ab.begin a behind", 1),
                           ("may a ab.end ahead", 2), ("may A b same", 1), ("may aa b same", 1), ("may abb a ahead", 1),
                           ("may a same", 2), ("may ahead", 1)):
            self.refused_saying(word, text)

    def test_words_of_mays(self):
        for text, word in (("may a b", 3), ("may a b ", 3), ("may a b  same", 3), ("may a b same ", 4),
                           ("may a b within", 3), ("may a b ahead begins", 4), ("may a b same same", 4),
                           ("may a b same ahead", 4), ("may a b behind same ahead", 4), ("may a ab ahead within ended", 5),
                           ("may a ab meets", 3), ("may ab a within", 3), ("may ab end ahead meets meets", 5),
                           ("may ab end met lapped", 4), ("may a b Same", 3), ("may a b same strict", 4),
                           ("may a b ahead same behind ahead", 6), ("may a b ahead  behind", 4), ("may a b 5", 3),
                           ("may a b behind behind same", 4)):
            self.refused_saying(word, text)
        for (name, kind) in THINGS[1:]:
            for word in ORDER:
                text = f"may a {name} {word}"
                if word in WORDS[P, kind]:
                    self.assertExactly(read_saying(THINGS, text), ("may", "a", name, (word,)))
                else:
                    self.refused_saying(3, text)

    def test_ends(self):
        for text, word in (("gap", 1), ("gap ", 1), ("gap x", 1), ("gap a.begin", 1), ("gap a.end b 1", 1),
                           ("gap ab a 1", 1), ("gap ab. a 1", 1), ("gap ab.begi a 1", 1), ("gap ab.ends a 1", 1),
                           ("gap ab.begin.end a 1", 1), ("gap ab.0 a 1", 1), ("gap .begin a 1", 1), ("gap  a b 1", 1),
                           ("gap ab.Begin a 1", 1), ("gap ab .begin a 1", 1), ("gap a", 2), ("gap a ", 2), ("gap a a 1", 2),
                           ("gap a x 1", 2), ("gap a ab 1", 2), ("gap a b.begin 1", 2), ("gap a  b 1", 2), ("gap a 1", 2),
                           ("gap ab.end ab.end 1", 2), ("gap ab.begin ab.begin", 2), ("gap end end.end 1", 1),
                           ("gap a end 1", 2), ("gap a begin 1", 2), ("gap A b 1", 1), ("gap aa b 1", 1)):
            self.refused_saying(word, text)

    def test_numbers(self):
        for number in ("", "x", "-", "+5", "05", "00", "-0", "0/1", "0/2", "5/1", "4/2", "2/4", "-2/4", "1/0", "1/-2", "1//2",
                       "/2", "1/", "-/2", "--1", "1/02", "01/2", "1.5", "1e3", "1000000", "-1000000", "1/1000000", "0000001",
                       "1/2/3", "1/+2", "strict", "-1/", "1_0", "0x1", "5-", "1/2-", "a", "12345678901234567890", "-00/7"):
            self.refused_saying(3, f"gap a b {number}")
            self.refused_saying(3, f"gap a b {number} strict")
            self.refused_saying(3, f"gap a b {number} strict 7")
        for text, number in (("0", (0, 1)), ("-1", (-1, 1)), ("999999", (999999, 1)), ("-999999/2", (-999999, 2)),
                             ("1/999999", (1, 999999)), ("10/3", (10, 3)), ("-1/100000", (-1, 100000)), ("100", (100, 1))):
            self.assertExactly(read_saying(THINGS, f"gap a b {text}"), ("gap", ("a", 0), ("b", 0), number, False))
        self.refused_saying(3, "gap a b")
        self.refused_saying(3, "gap a b ")

    def test_strict_and_words_too_many(self):
        for text, word in (("gap a b 1 ", 4), ("gap a b 1 Strict", 4), ("gap a b 1 loose", 4), ("gap a b 1 2", 4),
                           ("gap a b 1 strict ", 5), ("gap a b 1 strict strict", 5), ("gap a b 1 strict x y", 5),
                           ("gap a b 1  strict", 4), ("gap a b 1 x strict", 4)):
            self.refused_saying(word, text)

    def test_first_words_of_sayings(self):
        for text in ("", " ", "point a", "point z", "stretch z", "say a b", "mayb a b same", " gap a b 1", "gap.a b 1"):
            with self.assertRaises(NoText) as caught:
                read_saying(THINGS, text)
            self.assertExactly((caught.exception.row, caught.exception.word), (0, 0))

    def test_the_first_row_counts(self):
        self.refused(1, 1, ["point a", "point A", "may"])
        self.refused(4, 3, HEAD + ["may a b", "may", "gap"])
        self.refused(5, 1, HEAD + ["gap a b 1", "may", "may a b"])

    def test_texts_with_a_word_otherwise(self):
        # What is refused can be read up to there; what is read is shown as just these texts.
        dice = random.Random(23)
        words = ["", "a", "ab", "b", "may", "gap", "point", "stretch", "ahead", "same", "strict", "1", "-1/2", "ab.begin"]
        refused = 0
        for at in range(1500):
            rows = HEAD + [text for saying, text in dice.sample(SAID, 3)]
            row = dice.randrange(len(rows))
            parts = rows[row].split(" ")
            place = dice.randrange(len(parts) + 1)
            parts[place:place + dice.randrange(2)] = dice.sample(words, dice.randrange(2))
            rows[row] = " ".join(parts)
            try:
                talk = read_talk(rows)
            except NoText as caught:
                refused += 1
                self.check_refused_at(rows, caught.row, caught.word)
            else:
                self.assertSays(True, is_talk, talk)
                self.assertExactly(shown_talk(talk), rows)
        self.assertGreater(refused, 700)

    def check_refused_at(self, rows, row, word):
        if row > 0:
            self.assertExactly(shown_talk(read_talk(rows[:row])), rows[:row])
        if word > 0:
            cut = rows[:row] + [" ".join(rows[row].split(" ")[:word])]
            try:
                read_talk(cut)
            except NoText as caught:
                self.assertExactly((caught.row, caught.word), (row, word))


if __name__ == "__main__":
    unittest.main()
