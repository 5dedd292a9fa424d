"""Point 78: talks, tellings, tables and papers by other names."""

import copy
import itertools
import random
import unittest

from whens.checker import lets_no
from whens.closing import closed
from whens.renaming import renamed, renamed_paper, renamed_table, renamed_telling
from whens.talks import is_talk
from whens.tellings import is_table, is_telling

from layouts import TURNED, WORDS, Case
from oracle import in_order, is_row_so, refusal, some_saying, some_talk, some_telling, some_things, table_laid
from some_papers import WRITTEN, shut_papers, steps_in

P, S = "point", "stretch"
NEW = ("b", "a", "zz", "aa", "mmmmmmmm", "q", "x", "ab", "m", "z")


def some_names(dice, things):
    """Names for things: some keep the order, some turn it, some are exchanged."""
    elder = [name for name, kind in things]
    choice = dice.choice(("keep", "turn", "exchange", "any"))
    if choice == "exchange":
        return dict(zip(elder, dice.sample(elder, len(elder))))
    new = dice.sample(NEW, len(elder))
    if choice == "any":
        return dict(zip(elder, new))
    return dict(zip(elder, sorted(new, reverse=choice == "turn")))


def back(names):
    return {new: elder for elder, new in names.items()}


def new_end(names, end):
    return (names[end[0]], end[1])


def talk_by(talk, names):
    sayings = []
    for saying in talk[1]:
        if saying[0] == "may":
            sayings.append(("may", names[saying[1]], names[saying[2]], saying[3]))
        else:
            sayings.append(("gap", new_end(names, saying[1]), new_end(names, saying[2])) + saying[3:])
    return (tuple(sorted((names[name], kind) for name, kind in talk[0])), tuple(sayings))


def paper_by(names, paper):
    found = []
    for step in paper:
        if step[0] == "any":
            step = ("any", names[step[1]], names[step[2]])
        elif step[0] == "long":
            step = ("long", names[step[1]])
        elif step[0] == "ends":
            step = ("ends", step[1], new_end(names, step[2]), new_end(names, step[3]))
        elif step[0] == "cases":
            step = ("cases", step[1], tuple((words, paper_by(names, inner)) for words, inner in step[2]))
        found.append(step)
    return tuple(found)


class Renamed(Case):
    THINGS = (("a", P), ("m", S), ("z", S))

    def test_written_out(self):
        talk = (self.THINGS, (("may", "a", "m", ("within",)), ("may", "z", "m", ("meets", "met")),
                              ("gap", ("z", 1), ("a", 0), (1, 2), True)))
        names = {"a": "q", "m": "b", "z": "pp"}
        self.assertExactly(renamed(talk, names), (
            (("b", S), ("pp", S), ("q", P)), (("may", "q", "b", ("within",)), ("may", "pp", "b", ("meets", "met")),
                                              ("gap", ("pp", 1), ("q", 0), (1, 2), True))))
        telling = ((0, 1), ((1, 1), (2, 1)), ((3, 1), (4, 1)))
        self.assertExactly(renamed_telling(self.THINGS, names, telling), (telling[1], telling[2], telling[0]))
        table = (("a", "m", ("ahead", "begins")), ("a", "z", ("ends",)), ("m", "z", ("meets", "begins", "holds")))
        self.assertExactly(renamed_table(self.THINGS, names, table), (
            ("b", "pp", ("meets", "begins", "holds")), ("b", "q", ("begun", "behind")), ("pp", "q", ("ended",))))
        self.assertExactly(names, {"a": "q", "m": "b", "z": "pp"})

    def test_names_exchanged(self):
        talk = (self.THINGS, (("may", "m", "z", ("ahead",)), ("gap", ("m", 0), ("a", 0), (0, 1), False)))
        names = {"a": "a", "m": "z", "z": "m"}
        self.assertExactly(renamed(talk, names), (self.THINGS, (
            ("may", "z", "m", ("ahead",)), ("gap", ("z", 0), ("a", 0), (0, 1), False))))
        table = (("a", "m", ("ahead",)), ("a", "z", ("begins",)), ("m", "z", ("ahead", "begins")))
        self.assertExactly(renamed_table(self.THINGS, names, table), (
            ("a", "m", ("begins",)), ("a", "z", ("ahead",)), ("m", "z", ("begun", "behind"))))

    def test_one_thing(self):
        for kind, telling in ((P, ((1, 2),)), (S, (((1, 2), (3, 4)),))):
            self.assertExactly(renamed(((("a", kind),), ()), {"a": "zzzzzzzz"}), ((("zzzzzzzz", kind),), ()))
            self.assertExactly(renamed_telling((("a", kind),), {"a": "b"}, telling), telling)
            self.assertExactly(renamed_table((("a", kind),), {"a": "b"}, ()), ())

    def test_talks_and_tellings(self):
        dice = random.Random(78)
        for at in range(150):
            things = some_things(dice, dice.randrange(2, 7))
            talk = (things, tuple(some_saying(dice, things) for place in range(dice.randrange(24))))
            names = some_names(dice, things)
            before = copy.deepcopy((talk, names))
            new = renamed(talk, names)
            self.assertExactly(new, talk_by(talk, names))
            self.assertSays(True, is_talk, new)
            self.assertExactly(renamed(new, back(names)), talk)
            telling = some_telling(dice, things)
            moved = renamed_telling(things, names, telling)
            self.assertSays(True, is_telling, new[0], moved)
            self.assertExactly(dict(zip([name for name, kind in new[0]], moved)),
                               {name: dict(zip([names[name] for name, kind in things], telling))[name] for name, k in new[0]})
            self.assertExactly(renamed_telling(new[0], back(names), moved), telling)
            for saying, other in zip(talk[1], new[1]):
                self.assertEqual(is_row_so(new[0], moved, other[1:]), is_row_so(things, telling, saying[1:]))
            self.assertExactly((talk, names), before)

    def test_tables(self):
        dice = random.Random(781)
        for at in range(100):
            things = some_things(dice, dice.randrange(1, 7))
            names = some_names(dice, things)
            telling = some_telling(dice, things)
            new = renamed(((things), ()), names)[0]
            self.assertExactly(renamed_table(things, names, table_laid(things, telling)),
                               table_laid(new, renamed_telling(things, names, telling)))
            table = tuple((a, b, in_order(dice.sample(WORDS[k, l], dice.randrange(len(WORDS[k, l]) + 1))))
                          for (a, k), (b, l) in itertools.combinations(things, 2))
            found = renamed_table(things, names, table)
            self.assertSays(True, is_table, new, found)
            by_pair = {(names[a], names[b]): words for a, b, words in table}
            for a, b, words in found:
                wanted = by_pair[a, b] if (a, b) in by_pair else in_order([TURNED[word] for word in by_pair[b, a]])
                self.assertExactly(words, wanted)
            self.assertExactly(renamed_table(new, back(names), found), table)

    def test_closed_as_ahead(self):
        dice = random.Random(782)
        for at in range(60):
            talk = some_talk(dice, some_things(dice, dice.randrange(2, 6)), 6, 1, 6)
            names = some_names(dice, talk[0])
            word, found = closed(talk)
            other, again = closed(renamed(talk, names))
            self.assertEqual(other, word)
            if word == "table":
                self.assertExactly(again, renamed_table(talk[0], names, found))

    def test_papers(self):
        dice = random.Random(783)
        steps = set()
        for talk, paper in shut_papers(dice, 80):
            for turn in range(2):
                names = some_names(dice, talk[0])
                before = copy.deepcopy((names, paper))
                found = renamed_paper(names, paper)
                self.assertExactly(found, paper_by(names, paper))
                self.assertIs(lets_no(renamed(talk, names), found), True)
                self.assertIsNone(refusal(renamed(talk, names), found))
                self.assertExactly(renamed_paper(back(names), found), paper)
                self.assertExactly((names, paper), before)
            steps |= steps_in(paper)
        self.assertEqual(len(steps), 10)

    def test_written_papers(self):
        names = {"a": "zz", "b": "c", "c": "b", "s": "a"}
        for talk, paper in WRITTEN:
            just = {name: names[name] for name, kind in talk[0]}
            self.assertExactly(renamed_paper(just, paper), paper_by(just, paper))
            self.assertIsNone(refusal(renamed(talk, just), renamed_paper(just, paper)))


if __name__ == "__main__":
    unittest.main()
