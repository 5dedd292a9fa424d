"""Point 5, and what points 2 and 4 promise over the whole program, each once, over all of its modules."""

import copy
import itertools
import random
import unittest

from whens.benches import Bench
from whens.canbe import asked, can_be, follows, what_can_be
from whens.checker import lets_no, rows_of
from whens.closing import closed
from whens.deciding import decided
from whens.desk import Desk
from whens.drawing import drawn, read_drawing
from whens.earliest import earliest
from whens.errors import NoPaper
from whens.gaps import full_talk, lines, spread, times
from whens.judging import can_have, full_tables, is_answer, judged, shown_have
from whens.least import least_clash, lets_clash
from whens.papers import laid_behind, retold
from whens.plain import is_plain
from whens.renaming import renamed, renamed_paper, renamed_telling
from whens.spanchecker import lets_span
from whens.spans import farthest, span_shown
from whens.talks import broken, keeps
from whens.talktexts import read_talk, shown_talk
from whens.turning import mirrored, mirrored_may, mirrored_paper, mirrored_table, mirrored_telling
from whens.ways import ways

from hard_talks import hard_talks
from layouts import WORDS, Case
from oracle import (
    fitting, is_row_so, plain_talk, refusal, some_ends, some_saying, some_talk, some_things, table_laid, word_in,
)
from rings import can_be_kept, choices, span_laid
from some_papers import loose_papers, shut_papers, struck_papers
from sought_talks import near_talk, packed_talks

P, S = "point", "stretch"


def mirror_end(things, end):
    return end if dict(things)[end[0]] == P else (end[0], 1 - end[1])


def near_talks(dice, many, things=(2, 3, 3, 4)):
    for at in range(many):
        yield near_talk(dice, dice.choice(things), dice.randrange(1, 8), dice.randrange(7), dice.choice((3, 6)), 0.5)


class Whoever(Case):
    def test_what_is_let_by_no_telling_keeps(self):
        dice = random.Random(5)
        told = {True: 0, False: 0}
        shut = [(talk, paper) for talk, paper in shut_papers(dice, 80) if len(talk[0]) < 5]
        for talk, paper in itertools.chain(loose_papers(dice, 600), struck_papers(dice, shut)):
            try:
                truth = lets_no(talk, paper)
            except NoPaper as error:
                truth = False
                self.assertExactly((error.path, error.word), refusal(talk, paper))
            told[truth] += 1
            if truth:
                self.assertFalse(can_be_kept(talk))
        self.assertGreater(min(told.values()), 5)

    def test_moved_papers(self):
        dice = random.Random(501)
        for talk, paper in shut_papers(dice, 60):
            many = len(talk[1])
            more = (talk[0], tuple(some_saying(dice, talk[0]) for at in range(3) if len(talk[0]) > 1) + talk[1])
            ahead = len(more[1]) - many
            moved = retold(paper, tuple(range(ahead, ahead + many)))
            self.assertIs(lets_no(more, moved), True)
            stood = (("told", ahead),) if many else ()
            self.assertIs(lets_no(more, stood + laid_behind(moved, len(stood))), True)


class JustOne(Case):
    def test_a_telling_or_a_paper(self):
        dice = random.Random(502)
        for talk in near_talks(dice, 60):
            can = can_be_kept(talk)
            word, found = judged(talk)
            self.assertEqual(word, "yes" if can else "no")
            if can:
                self.assertSays(True, keeps, talk, found)
                self.assertExactly(broken(talk, found), [])
            else:
                self.assertSays(True, lets_no, talk, found)

    def test_the_closed_table_leaves_out_nothing_that_is_so(self):
        dice = random.Random(503)
        for talk in near_talks(dice, 60):
            word, found = closed(talk)
            for table, sums in itertools.islice(choices(talk), 200):
                self.assertEqual(word, "table")
                for (a, b, words), (c, d, (one,)) in zip(found, table):
                    self.assertIn(one, words)

    def test_of_plain_talks_it_has_just_that(self):
        dice = random.Random(504)
        for at in range(40):
            talk = plain_talk(some_talk(dice, some_things(dice, dice.choice((2, 3))), dice.randrange(1, 6), 0, 3))
            kinds = dict(talk[0])
            self.assertTrue(all(is_plain((kinds[saying[1]], kinds[saying[2]]), saying[3]) for saying in talk[1]))
            had = [table_laid(talk[0], telling) for telling in fitting(talk)]
            word, found = closed(talk)
            self.assertEqual(word, "table" if had else "clash")
            if had:
                for place, (a, b, words) in enumerate(found):
                    self.assertEqual(set(words), {table[place][2][0] for table in had})


class Shown(Case):
    def test_what_can_be_and_how_far(self):
        dice = random.Random(505)
        for talk in near_talks(dice, 30, (2, 3)):
            tables = [table for table, sums in choices(talk)]
            for place, ((a, k), (b, l)) in enumerate(itertools.combinations(talk[0], 2)):
                had = {table[place][2][0] for table in tables}
                self.assertEqual(set(can_have(talk, a, b)), had)
                for word, answer in shown_have(talk, a, b):
                    self.assertSays(True, is_answer, (talk[0], talk[1] + (("may", a, b, (word,)),)), answer)
                    self.assertEqual(answer[0], "yes" if word in had else "no")
            x, y = some_ends(dice, talk[0])
            answer, shown = span_shown(talk, x, y)
            self.assertExactly(answer, span_laid(talk, x, y))
            self.assertSays(True, lets_span, talk, x, y, answer, shown)

    def test_a_least_clash_loses_its_no(self):
        dice = random.Random(506)
        seen = 0
        for talk in near_talks(dice, 60):
            found = least_clash(talk)
            self.assertEqual(found[0] == "yes", can_be_kept(talk))
            if found[0] == "clash":
                seen += 1
                numbers = found[1]
                self.assertSays(True, lets_clash, talk, found[1:])
                for number in numbers:
                    self.assertTrue(can_be_kept((talk[0], tuple(talk[1][at] for at in numbers if at != number))))
        self.assertGreater(seen, 10)

    def test_taken_back_as_never_there(self):
        dice = random.Random(507)
        for talk in near_talks(dice, 20, (3, 4)):
            bench = Bench(talk[0])
            for saying in talk[1]:
                bench.put(saying)
            (a, k), (b, l) = dice.sample(talk[0], 2)
            first = (bench.talk(), bench.ask()[0], bench.may(a, b), bench.clash() is None, bench.closed()[0])
            bench.push()
            for at in range(3):
                bench.put(some_saying(dice, talk[0]))
            bench.ask()
            bench.pop()
            bench.put(some_saying(dice, talk[0]))
            bench.strike(len(talk[1]))
            self.assertExactly((bench.talk(), bench.ask()[0], bench.may(a, b), bench.clash() is None, bench.closed()[0]), first)


class TurnedAbout(Case):
    def test_each_answer_turns(self):
        dice = random.Random(508)
        for talk in itertools.chain(near_talks(dice, 40), hard_talks()[:3], [talk for talk, can in packed_talks()]):
            things, about = talk[0], mirrored(talk)
            word, found = judged(talk)
            self.assertEqual(judged(about)[0], word)
            turned = mirrored_telling(things, found) if word == "yes" else mirrored_paper(talk, found)
            self.assertSays(True, is_answer, about, (word, turned))
            (a, k), (b, l) = dice.sample(things, 2)
            self.assertExactly(can_have(about, a, b), mirrored_may(can_have(talk, a, b)))
            x, y = some_ends(dice, things)
            self.assertExactly(farthest(about, mirror_end(things, y), mirror_end(things, x)), farthest(talk, x, y))
            self.assertEqual(closed(about)[0], closed(talk)[0])
            if closed(talk)[0] == "table":
                self.assertExactly(closed(about)[1], mirrored_table(closed(talk)[1]))
            self.assertEqual(decided(about)[0], decided(talk)[0])
            self.assertExactly(what_can_be(about), mirrored_table(what_can_be(talk)))
            clash = least_clash(talk)
            if clash[0] == "clash":
                part = (things, tuple(talk[1][number] for number in clash[1]))
                tellings = tuple(mirrored_telling(things, telling) for telling in clash[3])
                self.assertSays(True, lets_clash, about, (clash[1], mirrored_paper(part, clash[2]), tellings))

    def test_full_tables_turn(self):
        dice = random.Random(509)
        for talk in near_talks(dice, 20, (2, 3)):
            found = [mirrored_table(table) for table in full_tables(talk)]
            self.assertEqual(sorted(full_tables(mirrored(talk))), sorted(found))

    def test_by_other_names_too(self):
        dice = random.Random(510)
        for talk in near_talks(dice, 30):
            names = dict(zip([name for name, kind in talk[0]], dice.sample(("a", "d", "zz", "c", "ab", "m"), len(talk[0]))))
            new = renamed(talk, names)
            word, found = judged(talk)
            self.assertEqual(judged(new)[0], word)
            moved = renamed_telling(talk[0], names, found) if word == "yes" else renamed_paper(names, found)
            self.assertSays(True, is_answer, new, (word, moved))


def lists_in(thing):
    """All lists in a thing, each as often as it is there."""
    found = [thing] if isinstance(thing, list) else []
    for part in thing if isinstance(thing, (list, tuple)) else ():
        found += lists_in(part)
    return found


class Apart(Case):
    """What is handed in stays as it is, what is told is new, and nothing hangs on what was asked before."""

    def questions(self, talk, dice):
        things = talk[0]
        (a, k), (b, l) = dice.sample(things, 2)
        x, y = some_ends(dice, things)
        word = WORDS[k, l][0]
        full = full_talk(talk, table_laid(things, judged((things, ()))[1]))
        return [
            (judged, (talk,)), (closed, (talk,)), (decided, (talk,)), (least_clash, (talk,)), (can_have, (talk, a, b)),
            (shown_have, (talk, a, b)), (farthest, (talk, x, y)), (span_shown, (talk, x, y)), (can_be, (talk, a, b)),
            (asked, (talk, a, b, word)), (follows, (talk, a, b, WORDS[k, l][1:])), (what_can_be, (talk,)),
            (shown_talk, (talk,)), (mirrored, (talk,)), (lines, (full,)), (spread, (full,)), (times, (full,)),
            (earliest, (plain_talk(talk),)), (drawn, (things, judged((things, ()))[1])),
        ] + ([(ways, (talk,)), (full_tables, (talk,))] if len(things) == 2 else [])

    def test_asked_again_in_another_order(self):
        dice = random.Random(520)
        for talk in near_talks(dice, 12):
            questions = self.questions(talk, dice)
            before = copy.deepcopy(questions)
            first = [copy.deepcopy(function(*given)) for function, given in questions]
            again = {}
            for place in dice.sample(range(len(questions)), len(questions)):
                function, given = questions[place]
                again[place] = function(*given)
            for place, told in enumerate(first):
                # Any answer that fits may be told; here the same one is, whatever was asked between.
                self.assertExactly(again[place], told)
            for (function, given), (same, kept) in zip(questions, before):
                self.assertExactly(given, kept)

    def test_lists_that_are_told_are_the_askers_own(self):
        talk = read_talk(["point a", "stretch s", "may a s begins ends", "gap s.end s.begin 2"])
        drawing = drawn(talk[0], judged(talk)[1])
        for function, given in ((shown_talk, (talk,)), (full_tables, (talk,)), (ways, (talk,)), (drawn, read_drawing(drawing)),
                                (broken, (talk, ((9, 1), ((0, 1), (1, 1))))),
                                (rows_of, ((talk[0], talk[1] + (("gap", ("s", 1), ("s", 0), (0, 1), False),)),
                                           (("long", "s"), ("told", 2), ("add", 0, 1))))):
            told = function(*given)
            kept = copy.deepcopy(told)
            held = lists_in(told)
            self.assertEqual(len({id(part) for part in held}), len(held))
            other = function(*given)
            self.assertEqual({id(part) for part in held} & {id(part) for part in lists_in(other)}, set())
            for part in held:
                part.clear()
            self.assertExactly(function(*given), kept)
            self.assertExactly(other, kept)

    def test_lists_that_were_handed_in(self):
        rows = ["point a", "stretch s", "may a s begins ends"]
        talk = read_talk(rows)
        desk = Desk(rows)
        kept = copy.deepcopy(talk)
        rows[2] = "may a s ahead"
        rows.append("x")
        self.assertExactly(talk, kept)
        self.assertEqual(desk.say("may a s"), "begins ends")
        drawing = drawn(talk[0], judged(talk)[1])
        found = read_drawing(drawing)
        kept = copy.deepcopy(found)
        drawing.clear()
        self.assertExactly(found, kept)

    def test_no_deeper_than_twelve_cases(self):
        def deep(paper):
            last = paper[-1]
            return 1 + max(deep(inner) for words, inner in last[2]) if last[0] == "cases" else 0

        for talk in hard_talks() + [talk for talk, can in packed_talks() if not can]:
            for paper in (judged(talk)[1], least_clash(talk)[2], span_shown(talk, ("a", 0), ("b", 0))[1]):
                self.assertLessEqual(deep(paper), 12)

    def test_words_that_tellings_have(self):
        dice = random.Random(521)
        for talk in near_talks(dice, 20):
            word, found = judged(talk)
            if word == "yes":
                for (a, k), (b, l) in itertools.permutations(talk[0], 2):
                    self.assertIn(word_in(talk[0], found, a, b), can_have(talk, a, b))
                self.assertTrue(all(is_row_so(talk[0], found, saying[1:]) for saying in talk[1]))


if __name__ == "__main__":
    unittest.main()
