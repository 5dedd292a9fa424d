"""Point 81: a desk that is told rows and answers each with a text."""

import random
import unittest

from whens.benches import Bench
from whens.desk import Desk
from whens.drawing import read_drawing
from whens.errors import NoLevel, NoNumber, NoRow, NoText, NoThing, TooMany
from whens.judging import judged
from whens.talks import keeps
from whens.talktexts import read_saying, read_talk, shown_saying, shown_talk
from whens.turning import mirrored

from hard_talks import hard_talks
from layouts import Case
from oracle import is_row_so, some_saying, some_things
from rings import can_be_kept
from sought_talks import near_talk, packed_talks

P, S = "point", "stretch"
LINES = ["point a", "point b", "stretch s", "may a b ahead same", "gap s.end a 1/2 strict"]


class Look(Case):
    def answers(self, desk, *rows):
        """Looks at the answers to rows: of each two texts the first one is told, the second one its answer."""
        for row, answer in zip(rows[::2], rows[1::2]):
            self.assertExactly((row, desk.say(row)), (row, answer))

    def refused(self, error, desk, told, **fields):
        """The refusal, by which nothing has turned."""
        before = (desk.say("level"), desk.say("ask"), desk.say("clash"))
        with self.assertRaises(error) as caught:
            desk.say(told)
        self.assertIs(type(caught.exception), error, told)
        for name, value in fields.items():
            self.assertExactly((told, getattr(caught.exception, name)), (told, value))
        self.assertEqual((desk.say("level"), desk.say("ask"), desk.say("clash")), before)


class Made(Look):
    def test_texts_that_can_not_be_read(self):
        for lines, row, word in (([], 0, 0), (["may a b same"], 0, 0), (LINES + ["point z"], 5, 0),
                                 (LINES + ["may a b"], 5, 3), (LINES + ["may a b same ahead"], 5, 4),
                                 (["point a", "point a"], 1, 1), (LINES[:1] * 7, 1, 1), (["point A"], 0, 1),
                                 (LINES[:3] + ["may a b same"] * 25, 27, 0), (["gap"], 0, 0), ([""], 0, 0)):
            with self.assertRaises(NoText) as caught:
                Desk(lines)
            self.assertExactly((caught.exception.row, caught.exception.word), (row, word))

    def test_of_things_alone(self):
        self.answers(Desk(["point a"]), "ask", "yes", "level", "0", "clash", "-", "draw", "a o / @ 0")

    def test_sayings_were_put(self):
        desk = Desk(list(LINES))
        self.answers(desk, "level", "0", "ask", "yes", "may a b", "ahead same", "may b a", "same behind",
                     "put may a b behind", "2", "ask", "no", "clash", "0 2", "strike 0", "ok", "ask", "yes")

    def test_the_list_of_lines_is_nothing_to_desks(self):
        lines = list(LINES)
        one, other = Desk(lines), Desk(lines)
        lines[3] = "may a b behind"
        lines.append("may a b ahead")
        del lines[0]
        third = Desk(["point a", "point b"])
        self.answers(one, "may a b", "ahead same", "put may a b behind", "2", "ask", "no", "push", "1")
        self.answers(other, "may a b", "ahead same", "ask", "yes", "level", "0", "strike 1", "ok", "put may a b ahead", "1")
        self.answers(one, "ask", "no", "clash", "0 2", "level", "1")
        self.answers(third, "ask", "yes", "may a b", "ahead same behind")
        self.assertEqual(lines, ["point b", "stretch s", "may a b behind", "gap s.end a 1/2 strict", "may a b ahead"])


class Rows(Look):
    def test_put(self):
        desk = Desk(LINES[:3])
        self.answers(desk, "put may a b ahead same", "0", "put gap s.end a -3/2", "1", "put gap a b 0 strict", "2",
                     "put may s a ahead ended holds begun behind", "3", "ask", "yes", "may a b", "ahead",
                     "may s a", "ahead")

    def test_push_pop_level(self):
        desk = Desk(LINES)
        self.refused(NoLevel, desk, "pop")
        self.answers(desk, "push", "1", "put may a b behind", "2", "push", "2", "put may a s ahead", "3", "level", "2",
                     "pop", "1", "ask", "no", "pop", "0", "ask", "yes", "level", "0", "put may a s ahead", "2")
        self.refused(NoLevel, desk, "pop")

    def test_strike(self):
        desk = Desk(LINES)
        for number in ("2", "3", "9", "10", "24", "99"):
            self.refused(NoNumber, desk, "strike " + number)
        self.answers(desk, "strike 1", "ok", "strike 0", "ok")
        self.refused(NoNumber, desk, "strike 0")
        full = Desk(LINES[:3] + ["may a b ahead"] * 23 + ["may a b same"])
        self.answers(full, "ask", "no", "strike 23", "ok", "ask", "yes", "may a b", "ahead", "strike 10", "ok")
        self.refused(NoNumber, full, "strike 22")
        self.answers(full, "strike 21", "ok", "put may a b ahead", "21", "put may a b ahead", "22", "put may a b same", "23")

    def test_ask(self):
        self.answers(Desk(LINES), "ask", "yes")
        self.answers(Desk(LINES + ["may b a ahead"]), "ask", "no")
        for talk, can in packed_talks():
            self.answers(Desk(shown_talk(talk)), "ask", "yes" if can else "no")
        for talk in hard_talks()[:3]:
            self.answers(Desk(shown_talk(talk)), "ask", "no", "draw", "-", "may a b", "-", "may e a", "-")

    def test_may(self):
        desk = Desk(LINES)
        self.answers(desk, "may a b", "ahead same", "may b a", "same behind", "may s a", "ahead ended holds begun behind",
                     "may a s", "ahead begins within ends behind", "put gap a s.begin 1 strict", "2",
                     "put gap s.begin a -1/2", "3", "may s a", "ahead ended holds", "strike 2", "ok", "strike 2", "ok")
        self.answers(desk, "put may b a ahead", "2", "may a b", "-", "may a s", "-")
        for one, other, name in (("x", "a", "x"), ("a", "x", "x"), ("x", "y", "x"), ("a", "a", "a"), ("x", "x", "x"),
                                 ("abcdefgh", "a", "abcdefgh"), ("s", "point", "point")):
            self.refused(NoThing, desk, f"may {one} {other}", name=name)
        full = Desk(LINES + ["may a b ahead same"] * 22)
        self.refused(NoThing, full, "may a x", name="x")
        self.refused(NoThing, full, "may a a", name="a")

    def test_clash(self):
        self.answers(Desk(LINES), "clash", "-")
        desk = Desk(LINES + ["may a s behind", "gap a s.end 0", "may b a ahead"])
        found = desk.say("clash").split(" ")
        self.assertEqual(found, [str(int(number)) for number in found])
        talk = read_talk(LINES + ["may a s behind", "gap a s.end 0", "may b a ahead"])
        sayings = tuple(talk[1][int(number)] for number in found)
        self.assertFalse(can_be_kept((talk[0], sayings)))
        for at in range(len(sayings)):
            self.assertTrue(can_be_kept((talk[0], sayings[:at] + sayings[at + 1:])))
        many = Desk(LINES + ["may a b ahead"] * 20 + ["may b a ahead"])
        found = many.say("clash").split(" ")
        self.assertEqual(len(found), 2)
        self.assertEqual(found[1], "22")

    def test_draw(self):
        dice = random.Random(81)
        self.answers(Desk(LINES + ["may b a ahead"]), "draw", "-")
        for at in range(40):
            talk = near_talk(dice, dice.randrange(1, 6), 6, 6, 6, 0.7)
            desk = Desk(shown_talk(talk))
            answer = desk.say("draw")
            if desk.say("ask") == "no":
                self.assertExactly(answer, "-")
            else:
                things, telling = read_drawing(answer.split(" / "))
                self.assertExactly(things, talk[0])
                self.assertTrue(all(is_row_so(things, telling, saying[1:]) for saying in talk[1]))

    def test_draw_of_many_figures(self):
        lines = ["stretch a", "stretch b", "stretch c", "stretch d", "stretch e"]
        bottoms = (999983, 999979, 999961, 999959, 999953, 999931, 999917, 999907, 999883, 999863, 999853, 999809)
        ends = [f"{name}.{end}" for name in "abcde" for end in ("begin", "end")]
        for at, bottom in enumerate(bottoms[:9]):
            lines.append(f"gap {ends[at + 1]} {ends[at]} {bottom - 1}/{bottom}")
            lines.append(f"gap {ends[at]} {ends[at + 1]} -{bottom - 1}/{bottom}")
        things, telling = read_drawing(Desk(lines).say("draw").split(" / "))
        self.assertSays(True, keeps, read_talk(lines), telling)

    def test_mirror(self):
        desk = Desk(["stretch s", "stretch t", "may s t meets begins", "gap s.begin t.begin -1"])
        self.answers(desk, "may s t", "meets", "push", "1", "put gap t.end s.end 5", "2", "push", "2", "mirror", "ok",
                     "level", "0", "may s t", "met", "ask", "yes")
        self.refused(NoLevel, desk, "pop")
        # All sayings are there yet, turned about, and can be struck.
        self.answers(desk, "put gap t.end s.end 0", "3", "strike 3", "ok", "strike 2", "ok", "strike 1", "ok",
                     "may s t", "ends met", "strike 0", "ok")
        self.refused(NoNumber, desk, "strike 0")
        back = Desk(LINES)
        self.answers(back, "mirror", "ok", "may a b", "same behind", "put may b a ahead", "2", "mirror", "ok",
                     "may a b", "ahead", "strike 2", "ok", "may a b", "ahead same")

    def test_mirror_against_talks_turned_about(self):
        dice = random.Random(811)
        for at in range(20):
            talk = near_talk(dice, dice.randrange(2, 5), 5, 5, 6, 0.6)
            desk = Desk(shown_talk(talk))
            turned = Desk(shown_talk(mirrored(talk)))
            self.answers(desk, "mirror", "ok")
            (a, k), (b, l) = dice.sample(talk[0], 2)
            for row in ("level", "ask", f"may {a} {b}"):
                self.assertExactly(desk.say(row), turned.say(row))
            self.assertEqual(desk.say("clash") == "-", turned.say("clash") == "-")

    def test_many_deeds_against_a_bench(self):
        dice = random.Random(812)
        for turn in range(10):
            things = some_things(dice, dice.randrange(2, 5))
            desk, bench = Desk(shown_talk((things, ()))), Bench(things)
            for deed in range(30):
                choice = dice.choice(("put", "put", "push", "pop", "strike", "ask", "may"))
                many = len(bench.talk()[1])
                if choice == "put" and many < 23:
                    saying = some_saying(dice, things)
                    self.answers(desk, "put " + shown_saying(things, saying), str(bench.put(saying)))
                elif choice == "push":
                    bench.push()
                    self.answers(desk, "push", str(bench.level()))
                elif choice == "pop" and bench.level():
                    bench.pop()
                    self.answers(desk, "pop", str(bench.level()))
                elif choice == "strike" and many:
                    number = dice.randrange(many)
                    bench.strike(number)
                    self.answers(desk, f"strike {number}", "ok")
                elif choice == "may":
                    (a, k), (b, l) = dice.sample(things, 2)
                    self.answers(desk, f"may {a} {b}", " ".join(bench.may(a, b)) or "-")
                self.answers(desk, "level", str(bench.level()), "ask", judged(bench.talk())[0])


class NoRows(Look):
    def test_rows_that_are_none(self):
        desk = Desk(LINES)
        for row in ("", " ", "put", "Put may a b same", "PUT", "push ", " push", "push 1", "pushed", "Push", "pop ", " pop",
                    "pop 0", "level ", " level", "level 0", "ask ", " ask", "ask a", "clash ", "clash 0", "draw ", "draw a",
                    "mirror ", " mirror", "mirror mirror", "strike", "strike ", "strike 00", "strike 01", "strike 100",
                    "strike 000", "strike -1", "strike +1", "strike 1 ", "strike 1 0", "strike  1", " strike 1", "strike a",
                    "strike 1.0", "strike 0x", "strike 1/1", "strike -0", "strike -", "strike ab", "may", "may a", "may a ",
                    "may a b ", "may  a b", "may a  b", " may a b", "may a b c", "may A b", "may a B", "may a1 b", "may a b1",
                    "may abcdefghi a", "may a abcdefghi", "may a.begin b", "may a s.end", "May a b", "may , b", "may a @",
                    "gap a b 1", "point z", "stretch a", "told 0", "yes", "-", "ok", "put\nmay a b same", "push\n", "\npush",
                    "ask\n", "closed", "talk", "quit", "mirrored", "strike 1\n", "may a b\n", "pu sh", "a", "ask?"):
            self.refused(NoRow, desk, row)

    def test_things_that_are_no_texts(self):
        desk = Desk(LINES)
        for row in (None, 0, True, [], (), ["push"], ("push",), ["put", "may a b same"]):
            self.refused(NoRow, desk, row)

    def test_ahead_of_all_else(self):
        full = Desk(LINES + ["may a b ahead same"] * 22)
        for row in ("put", "strike 100", "may x Y", "pop 1", "strike 099"):
            self.refused(NoRow, full, row)

    def test_lines_that_can_not_be_read(self):
        desk = Desk(LINES)
        for line, word in (("", 0), (" ", 0), ("x", 0), (" may a b same", 0), ("may", 1), ("may ", 1), ("may a", 2),
                           ("may a b", 3), ("may a b ", 3), ("may a a same", 2), ("may a x same", 2), ("may x a same", 1),
                           ("may a b meets", 3), ("may a b same ahead", 4), ("may a b same same", 4), ("may a b same ", 4),
                           ("may  a b same", 1), ("gap", 1), ("gap a", 2), ("gap a b", 3), ("gap a b x", 3),
                           ("gap a b 1 2", 4), ("gap a b 1 strict strict", 5), ("gap a b 1 strict ", 5), ("gap a a 1", 2),
                           ("gap s a 1", 1), ("gap s.end a.begin 1", 2), ("gap a b 01", 3), ("gap a b 2/4", 3),
                           ("gap a b 1000000", 3), ("point z", 0), ("push", 0), ("put may a b same", 0), ("May a b same", 0)):
            self.refused(NoText, desk, "put " + line, row=0, word=word)
            with self.assertRaises(NoText) as caught:
                read_saying(read_talk(LINES)[0], line)
            self.assertExactly((caught.exception.row, caught.exception.word), (0, word))

    def test_too_many(self):
        full = Desk(LINES + ["may a b ahead same"] * 22)
        self.refused(TooMany, full, "put may a b same", word="sayings")
        # What can't be read is refused as such even then.
        self.refused(NoText, full, "put may a b", row=0, word=3)
        self.answers(full, "strike 5", "ok", "put may a b ahead", "23", "push", "1")
        self.refused(TooMany, full, "put may a b same", word="sayings")
        self.answers(full, "strike 23", "ok", "put may a b same", "23", "pop", "0", "put may a b same", "23")


if __name__ == "__main__":
    unittest.main()
