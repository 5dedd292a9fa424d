"""Points 76 and 77: words, mays, talks, tellings, tables and papers turned about in time."""

import copy
import itertools
import random
import unittest

from whens.checker import lets_no
from whens.closing import closed
from whens.errors import NoPaper
from whens.turning import (
    mirrored, mirrored_may, mirrored_paper, mirrored_table, mirrored_telling, mirrored_word,
)

from layouts import ORDER, WORDS, Case, laid_out, some_mays, word_laid
from oracle import (
    fitting, in_order, is_row_so, refusal, some_gap_saying, some_saying, some_talk, some_telling, some_things, table_laid,
)
from rings import can_be_kept
from some_papers import WRITTEN, loose_papers, shut_papers, steps_in, struck_papers

P, S = "point", "stretch"
TURNS = (("ahead", "behind"), ("meets", "met"), ("overlaps", "lapped"), ("begins", "ends"), ("begun", "ended"))
ABOUT = {word: word for word in ORDER}
for one, other in TURNS:
    ABOUT[one], ABOUT[other] = other, one


def about_end(things, end):
    return end if dict(things)[end[0]] == P else (end[0], 1 - end[1])


def about_saying(things, saying):
    if saying[0] == "may":
        return saying[:3] + (in_order([ABOUT[word] for word in saying[3]]),)
    return ("gap", about_end(things, saying[2]), about_end(things, saying[1]), saying[3], saying[4])


class Words(Case):
    def test_words(self):
        for word in ORDER:
            self.assertExactly(mirrored_word(word), ABOUT[word])
            self.assertExactly(mirrored_word(mirrored_word(word)), word)

    def test_words_by_times_that_are_laid_out(self):
        for kinds in WORDS:
            for one, other in itertools.product(laid_out(kinds[0], range(5)), laid_out(kinds[1], range(5))):
                turned = word_laid(kinds, (-one[1], -one[0]), (-other[1], -other[0]))
                self.assertEqual(mirrored_word(word_laid(kinds, one, other)), turned)

    def test_mays(self):
        dice = random.Random(76)
        for kinds in WORDS:
            for may in some_mays(kinds, dice, 60):
                self.assertExactly(mirrored_may(may), in_order([ABOUT[word] for word in may]))
                self.assertExactly(mirrored_may(mirrored_may(may)), may)
                self.assertLessEqual(set(mirrored_may(may)), set(WORDS[kinds]))


class Talks(Case):
    def test_written_out(self):
        things = (("a", P), ("s", S), ("t", S))
        talk = (things, (("may", "s", "t", ("meets", "begins", "same", "ended")), ("may", "a", "s", ("begins", "within")),
                         ("gap", ("s", 0), ("t", 1), (-1, 2), True), ("gap", ("a", 0), ("t", 0), (3, 1), False),
                         ("gap", ("s", 1), ("s", 0), (7, 3), False)))
        about = (things, (("may", "s", "t", ("ends", "same", "begun", "met")), ("may", "a", "s", ("within", "ends")),
                          ("gap", ("t", 0), ("s", 1), (-1, 2), True), ("gap", ("t", 1), ("a", 0), (3, 1), False),
                          ("gap", ("s", 1), ("s", 0), (7, 3), False)))
        before = copy.deepcopy(talk)
        self.assertExactly(mirrored(talk), about)
        self.assertExactly(mirrored(about), talk)
        self.assertExactly(talk, before)
        self.assertExactly(mirrored((things, ())), (things, ()))
        telling = ((1, 2), ((-1, 3), (0, 1)), ((5, 1), (13, 2)))
        turned = ((-1, 2), ((0, 1), (1, 3)), ((-13, 2), (-5, 1)))
        self.assertExactly(mirrored_telling(things, telling), turned)
        self.assertExactly(mirrored_telling(things, turned), telling)

    def test_many(self):
        dice = random.Random(761)
        for at in range(100):
            things = some_things(dice, dice.randrange(2, 7))
            talk = (things, tuple(some_saying(dice, things) for place in range(dice.randrange(24))))
            about = (things, tuple(about_saying(things, saying) for saying in talk[1]))
            self.assertExactly(mirrored(talk), about)
            self.assertExactly(mirrored(about), talk)

    def test_kept_alike(self):
        dice = random.Random(77)
        told = {True: 0, False: 0}
        for at in range(400):
            things = some_things(dice, dice.randrange(2, 5))
            talk = (things, (some_saying(dice, things), some_gap_saying(dice, things)))
            telling = some_telling(dice, things)
            turned = mirrored_telling(things, telling)
            for saying, about in zip(talk[1], mirrored(talk)[1]):
                truth = is_row_so(things, telling, saying[1:])
                self.assertEqual(is_row_so(things, turned, about[1:]), truth)
                told[truth] += 1
            self.assertExactly(mirrored_telling(things, turned), telling)
        self.assertGreater(min(told.values()), 100)

    def test_tables(self):
        dice = random.Random(762)
        for at in range(60):
            things = some_things(dice, dice.randrange(1, 6))
            telling = some_telling(dice, things)
            table = table_laid(things, telling)
            self.assertExactly(mirrored_table(table), table_laid(things, mirrored_telling(things, telling)))
            self.assertExactly(mirrored_table(mirrored_table(table)), table)
        table = (("a", "b", ()), ("a", "c", ("ahead", "begins")), ("b", "c", ORDER))
        self.assertExactly(mirrored_table(table), (("a", "b", ()), ("a", "c", ("ends", "behind")), ("b", "c", ORDER)))
        self.assertExactly(mirrored_table(()), ())

    def test_closed_and_kept_talks_turn(self):
        dice = random.Random(763)
        for at in range(60):
            things = some_things(dice, dice.choice((2, 3, 4)))
            talk = some_talk(dice, things, 5, 0, 5)
            word, found = closed(talk)
            turned, other = closed(mirrored(talk))
            self.assertEqual(turned, word)
            if word == "table":
                self.assertExactly(other, mirrored_table(found))
            many = sum(1 for telling in fitting(talk))
            self.assertEqual(sum(1 for telling in fitting(mirrored(talk))), many)
            gaps = (things, talk[1] + (some_gap_saying(dice, things), some_gap_saying(dice, things)))
            self.assertEqual(can_be_kept(mirrored(gaps)), can_be_kept(gaps))


def about_paper(things, paper):
    """The paper turned about, by the document's words."""
    found = []
    for step in paper:
        if step[0] == "ends":
            step = ("ends", step[1], about_end(things, step[3]), about_end(things, step[2]))
        elif step[0] == "add":
            step = ("add", step[2], step[1])
        elif step[0] == "cases":
            parts = [(in_order([ABOUT[word] for word in words]), about_paper(things, inner)) for words, inner in step[2]]
            step = ("cases", step[1], tuple(parts))
        found.append(step)
    return tuple(found)


class Papers(Case):
    def look(self, talk, paper):
        """Looks at a paper turned about; whether it is let by."""
        before = copy.deepcopy((talk, paper))
        found = mirrored_paper(talk, paper)
        self.assertExactly(found, about_paper(talk[0], paper))
        self.assertExactly(mirrored_paper(mirrored(talk), found), paper)
        self.assertExactly((talk, paper), before)
        truth = refusal(talk, paper) is None
        self.assertEqual(refusal(mirrored(talk), found) is None, truth)
        if truth:
            self.assertIs(lets_no(mirrored(talk), found), True)
        else:
            with self.assertRaises(NoPaper):
                lets_no(mirrored(talk), found)
        return truth

    def test_every_step(self):
        steps = set()
        for talk, paper in WRITTEN:
            self.assertTrue(self.look(talk, paper))
            steps |= steps_in(paper)
        self.assertEqual(len(steps), 10)

    def test_shut_papers(self):
        papers = shut_papers(random.Random(771), 90)
        for talk, paper in papers:
            self.assertTrue(self.look(talk, paper))

    def test_papers_that_are_not_let_by(self):
        dice = random.Random(772)
        told = {True: 0, False: 0}
        for talk, paper in struck_papers(dice, shut_papers(dice, 70)):
            told[self.look(talk, paper)] += 1
        for talk, paper in loose_papers(dice, 400):
            told[self.look(talk, paper)] += 1
        self.assertGreater(min(told.values()), 5)

    def test_the_void_paper(self):
        self.assertFalse(self.look(WRITTEN[0][0], ()))

    def test_ends_of_things_that_are_none(self):
        talk = WRITTEN[1][0]
        for x, y in ((("x", 0), ("b", 0)), (("a", 0), ("x", 1)), (("x", 0), ("y", 1))):
            with self.assertRaises(NoPaper):
                lets_no(mirrored(talk), mirrored_paper(talk, (("told", 0), ("ends", 0, x, y))))


if __name__ == "__main__":
    unittest.main()
