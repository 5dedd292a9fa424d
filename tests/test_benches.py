"""Points 73 to 75: benches that keep sayings in levels, and what they tell of the sayings that are there."""

import copy
import itertools
import random
import unittest

from whens.benches import Bench
from whens.closing import closed
from whens.errors import NoLevel, NoNumber, NoSaying, NoThing, TooMany
from whens.judging import can_have, is_answer, judged
from whens.least import least_clash, lets_clash

from hard_talks import hard_talks
from layouts import ODD, TURNED, WORDS, Case
from oracle import closed_laid, in_order, refusal, some_saying, some_talk, some_things
from rings import can_be_kept, choices
from sought_talks import near_talk, packed_talks

P, S = "point", "stretch"
THINGS = (("a", P), ("b", P), ("s", S))
MAY = ("may", "a", "b", ("ahead", "same"))
GAP = ("gap", ("s", 1), ("a", 0), (1, 2), True)
BACK = ("may", "a", "b", ("behind",))


class Book:
    """The test's own book of sayings with their levels."""

    def __init__(self, things):
        self.things, self.levels = things, [[]]
        self.order = []

    def put(self, saying):
        entry = [saying]
        self.order.append(entry)
        self.levels[-1].append(entry)
        return len(self.order) - 1

    def push(self):
        self.levels.append([])

    def pop(self):
        gone = self.levels.pop()
        self.order = [entry for entry in self.order if not any(entry is other for other in gone)]

    def strike(self, number):
        del self.order[number]

    def talk(self):
        return (self.things, tuple(entry[0] for entry in self.order))


def bench_with(things, sayings):
    bench = Bench(things)
    for saying in sayings:
        bench.put(saying)
    return bench


class Look(Case):
    def stands(self, bench, talk, level):
        self.assertExactly(bench.talk(), talk)
        self.assertExactly(bench.level(), level)

    def refused(self, error, bench, deed, *arguments):
        """The refusal; nothing has turned by it."""
        talk, level = copy.deepcopy(bench.talk()), bench.level()
        before = copy.deepcopy(arguments)
        with self.assertRaises(error) as caught:
            getattr(bench, deed)(*arguments)
        self.assertIs(type(caught.exception), error)
        self.stands(bench, talk, level)
        self.assertExactly(arguments, before)
        return caught.exception


class Deeds(Look):
    def test_numbers_from_0(self):
        bench = Bench(THINGS)
        self.stands(bench, (THINGS, ()), 0)
        for number, saying in enumerate((MAY, GAP, BACK, MAY, MAY)):
            self.assertExactly(bench.put(saying), number)
        self.stands(bench, (THINGS, (MAY, GAP, BACK, MAY, MAY)), 0)

    def test_nothing_is_told_of_deeds(self):
        bench = bench_with(THINGS, (MAY, GAP))
        self.assertIsNone(bench.push())
        self.assertIsNone(bench.strike(0))
        self.assertIsNone(bench.pop())
        self.stands(bench, (THINGS, (GAP,)), 0)

    def test_levels(self):
        bench = bench_with(THINGS, (MAY,))
        bench.push()
        bench.put(GAP)
        bench.push()
        bench.push()
        bench.put(BACK)
        self.stands(bench, (THINGS, (MAY, GAP, BACK)), 3)
        bench.pop()
        self.stands(bench, (THINGS, (MAY, GAP)), 2)
        bench.pop()
        self.stands(bench, (THINGS, (MAY, GAP)), 1)
        self.assertExactly(bench.put(BACK), 2)
        bench.pop()
        self.stands(bench, (THINGS, (MAY,)), 0)
        self.refused(NoLevel, bench, "pop")
        self.assertExactly(bench.put(GAP), 1)

    def test_struck_from_a_lower_level(self):
        bench = bench_with(THINGS, (MAY, GAP))
        bench.push()
        bench.put(BACK)
        bench.strike(0)
        self.stands(bench, (THINGS, (GAP, BACK)), 1)
        self.assertExactly(bench.put(MAY), 2)
        bench.strike(1)
        self.stands(bench, (THINGS, (GAP, MAY)), 1)
        bench.pop()
        self.stands(bench, (THINGS, (GAP,)), 0)

    def test_alike_sayings_at_two_levels(self):
        bench = bench_with(THINGS, (MAY, GAP))
        bench.push()
        bench.put(MAY)
        bench.put(GAP)
        bench.pop()
        self.stands(bench, (THINGS, (MAY, GAP)), 0)
        bench.push()
        bench.put(MAY)
        bench.strike(0)
        self.stands(bench, (THINGS, (GAP, MAY)), 1)
        bench.pop()
        self.stands(bench, (THINGS, (GAP,)), 0)

    def test_no_level(self):
        bench = Bench(THINGS)
        self.refused(NoLevel, bench, "pop")
        bench.push()
        bench.pop()
        self.refused(NoLevel, bench, "pop")

    def test_no_saying(self):
        bench = bench_with(THINGS, (MAY,))
        for saying in (list(MAY), MAY[:3], MAY + (None,), ("may", "a", "a", ("same",)), ("may", "a", "x", ("ahead",)),
                       ("may", "a", "b", ()), ("may", "a", "b", ["ahead"]), ("may", "a", "b", ("meets",)),
                       ("may", "a", "b", ("same", "ahead")), GAP[:4], GAP + (None,), GAP[:4] + (1,), GAP[:4] + (None,),
                       ("gap", ("s", 1), ("s", 1), (1, 2), True), ("gap", ("s", True), ("a", 0), (1, 2), True),
                       ("gap", ("s", 1), ("a", 1), (1, 2), True), ("gap", ("s", 1), ("a", 0), (2, 4), True),
                       ("gap", ["s", 1], ("a", 0), (1, 2), True), ("gap", ("s", 1), ("a", 0), (True, 2), True), (MAY,),
                       (THINGS, (MAY,)), ("told", 0), "may a b ahead"):
            self.refused(NoSaying, bench, "put", saying)
        for thing in ODD:
            self.refused(NoSaying, bench, "put", thing)

    def test_no_number(self):
        bench = bench_with(THINGS, (MAY, GAP))
        for number in (2, 3, -1, -2, 24, 10 ** 39, True, False, None, "0", "", (0,), [0], (), (0, 1)):
            self.refused(NoNumber, bench, "strike", number)
        for thing in ODD:
            if thing not in (0, 1) or isinstance(thing, bool):
                self.refused(NoNumber, bench, "strike", thing)
        for number in (0, False, None):
            self.refused(NoNumber, Bench(THINGS), "strike", number)

    def test_a_full_bench(self):
        for level in (0, 3):
            bench = Bench(THINGS)
            for at in range(24):
                if at == 12:
                    for turn in range(level):
                        bench.push()
                self.assertExactly(bench.put(MAY if at % 2 else GAP), at)
            found = self.refused(TooMany, bench, "put", BACK)
            self.assertExactly(found.word, "sayings")
            # What is no saying is refused as such even then.
            self.refused(NoSaying, bench, "put", None)
            self.refused(NoSaying, bench, "put", list(BACK))
            bench.strike(5)
            self.assertExactly(bench.put(BACK), 23)
            self.refused(TooMany, bench, "put", BACK)
            self.assertExactly(bench.talk()[1][23], BACK)
            if level:
                bench.pop()
                self.assertEqual(len(bench.talk()[1]), 11)
                for at in range(13):
                    self.assertExactly(bench.put(BACK), 11 + at)
                self.refused(TooMany, bench, "put", BACK)

    def test_many_orders(self):
        dice = random.Random(73)
        for turn in range(60):
            things = some_things(dice, dice.randrange(2, 7))
            bench, book = Bench(things), Book(things)
            few = [some_saying(dice, things) for at in range(4)]
            for deed in range(60):
                choice = dice.choice(("put", "put", "put", "push", "pop", "strike", "wrong"))
                many = len(book.order)
                if choice == "put":
                    saying = dice.choice(few) if dice.random() < 0.5 else some_saying(dice, things)
                    if many == 24:
                        self.refused(TooMany, bench, "put", saying)
                    else:
                        self.assertExactly(bench.put(saying), book.put(saying))
                elif choice == "push":
                    bench.push()
                    book.push()
                elif choice == "pop" and len(book.levels) > 1:
                    bench.pop()
                    book.pop()
                elif choice == "pop":
                    self.refused(NoLevel, bench, "pop")
                elif choice == "strike" and many:
                    number = dice.randrange(many)
                    bench.strike(number)
                    book.strike(number)
                else:
                    self.refused(NoNumber, bench, "strike", many)
                    self.refused(NoSaying, bench, "put", dice.choice(ODD))
                self.stands(bench, book.talk(), len(book.levels) - 1)


class Told(Look):
    def look(self, bench):
        """Looks at all that a bench tells of its talk, which has at most five things."""
        talk = bench.talk()
        can = can_be_kept(talk)
        answer = bench.ask()
        self.assertEqual(answer[0], "yes" if can else "no")
        self.assertSays(True, is_answer, talk, answer)
        clash = bench.clash()
        if can:
            self.assertIsNone(clash)
        else:
            self.assertEqual((clash[0], len(clash)), ("clash", 4))
            self.assertSays(True, lets_clash, talk, clash[1:])
        self.look_at_closed(bench)
        self.assertExactly(bench.talk(), talk)
        return answer[0]

    def look_at_closed(self, bench):
        talk = bench.talk()
        word, found = bench.closed()
        wanted = closed_laid(talk)
        if wanted is None:
            self.assertEqual(word, "clash")
            self.assertIsNone(refusal(talk, found))
        else:
            self.assertExactly((word, found), ("table", wanted))

    def look_at_mays(self, bench):
        """Looks at what each two things can have, at a bench that is not full."""
        talk = bench.talk()
        tables = [table for table, sums in choices(talk)]
        for at, ((a, k), (b, l)) in enumerate(itertools.combinations(talk[0], 2)):
            words = {table[at][2][0] for table in tables}
            self.assertExactly(bench.may(a, b), in_order(words))
            self.assertExactly(bench.may(b, a), in_order([TURNED[word] for word in words]))

    def test_at_first(self):
        bench = Bench(THINGS)
        self.assertEqual(self.look(bench), "yes")
        self.look_at_mays(bench)
        self.look(Bench((("a", P),)))

    def test_clashing_sayings_stand(self):
        bench = bench_with(THINGS, (MAY, GAP))
        self.assertEqual(self.look(bench), "yes")
        bench.push()
        self.assertExactly(bench.put(BACK), 2)
        self.assertEqual(self.look(bench), "no")
        self.assertExactly(bench.clash()[1], (0, 2))
        self.assertExactly(bench.may("a", "b"), ())
        self.assertExactly(bench.put(GAP), 3)
        self.assertEqual(self.look(bench), "no")
        bench.pop()
        self.assertEqual(self.look(bench), "yes")
        self.assertExactly(bench.may("a", "b"), ("ahead", "same"))
        bench.put(BACK)
        bench.strike(0)
        self.assertEqual(self.look(bench), "yes")
        self.assertExactly(bench.may("a", "b"), ("behind",))

    def test_between_deeds(self):
        dice = random.Random(74)
        told = {"yes": 0, "no": 0}
        for turn in range(12):
            things = some_things(dice, dice.choice((2, 3, 3)))
            pool = near_talk(dice, len(things), 12, 8, 8, 0)
            bench, book = Bench(pool[0]), Book(pool[0])
            for deed in range(14):
                choice = dice.choice(("put", "put", "push", "pop", "strike"))
                if choice == "put" and len(book.order) < 23 and pool[1]:
                    saying = dice.choice(pool[1])
                    self.assertExactly(bench.put(saying), book.put(saying))
                if choice == "push":
                    bench.push()
                    book.push()
                if choice == "pop" and len(book.levels) > 1:
                    bench.pop()
                    book.pop()
                if choice == "strike" and book.order:
                    number = dice.randrange(len(book.order))
                    bench.strike(number)
                    book.strike(number)
                if dice.random() < 0.7:
                    self.stands(bench, book.talk(), len(book.levels) - 1)
                    told[self.look(bench)] += 1
                if dice.random() < 0.3:
                    self.look_at_mays(bench)
        self.assertGreater(min(told.values()), 10)

    def test_as_a_new_bench_tells(self):
        dice = random.Random(741)
        for turn in range(20):
            talk = near_talk(dice, dice.choice((3, 4, 5)), 6, 8, 6, 0.6)
            bench = Bench(talk[0])
            for saying in talk[1]:
                if dice.random() < 0.5:
                    bench.push()
                    bench.put(some_saying(dice, talk[0]))
                    bench.ask()
                    bench.pop()
                bench.put(saying)
                if dice.random() < 0.5:
                    number = dice.randrange(len(bench.talk()[1]))
                    again = bench.talk()[1][number]
                    bench.strike(number)
                    bench.put(again)
            now = bench.talk()
            self.assertEqual(sorted(map(repr, now[1])), sorted(map(repr, talk[1])))
            fresh = bench_with(now[0], now[1])
            self.assertExactly(bench.closed()[0], fresh.closed()[0])
            if bench.closed()[0] == "table":
                self.assertExactly(bench.closed(), fresh.closed())
                self.assertExactly(bench.closed(), closed(now))
            self.assertEqual(bench.ask()[0], fresh.ask()[0])
            self.assertEqual(bench.ask()[0], judged(now)[0])
            self.assertEqual(bench.clash() is None, fresh.clash() is None)
            self.assertEqual(bench.clash() is None, least_clash(now)[0] == "yes")
            (a, k), (b, l) = dice.sample(now[0], 2)
            self.assertExactly(bench.may(a, b), fresh.may(a, b))
            self.assertExactly(bench.may(a, b), can_have(now, a, b))

    def test_five_things(self):
        for talk, can in packed_talks():
            bench = bench_with(talk[0], talk[1])
            self.assertEqual(bench.ask()[0], "yes" if can else "no")
            self.assertSays(True, is_answer, talk, bench.ask())
            self.assertEqual(bench.clash() is None, can)
            self.assertExactly(bench.may("a", "b"), can_have(talk, "a", "b"))
            bench.strike(len(talk[1]) - 1)
            self.assertEqual(bench.ask()[0], "yes")
            self.assertIsNone(bench.clash())
        for talk in hard_talks()[:4]:
            bench = bench_with(talk[0], talk[1])
            self.assertEqual(bench.ask()[0], "no")
            self.assertEqual(bench.closed()[0], "table")
            self.assertSays(True, lets_clash, talk, bench.clash()[1:])
            bench.strike(bench.clash()[1][0])

    def test_a_saying_more_never_gives_a_word_more(self):
        dice = random.Random(75)
        for turn in range(12):
            talk = near_talk(dice, 3, 6, 5, 6, 0.9)
            bench = Bench(talk[0])
            before = {pair: set(WORDS[dict(talk[0])[pair[0]], dict(talk[0])[pair[1]]])
                      for pair in itertools.permutations([name for name, kind in talk[0]], 2)}
            for saying in talk[1]:
                bench.put(saying)
                now = {pair: set(bench.may(*pair)) for pair in before}
                for pair in before:
                    self.assertLessEqual(now[pair], before[pair])
                before = now

    def test_six_things(self):
        dice = random.Random(742)
        for turn in range(15):
            things = some_things(dice, 6)
            talk = some_talk(dice, things, dice.randrange(16), 3, 6)
            bench = bench_with(things, talk[1])
            self.look_at_closed(bench)
            bench.push()
            bench.put(some_saying(dice, things))
            self.look_at_closed(bench)
            bench.pop()
            self.stands(bench, talk, 0)
            self.look_at_closed(bench)

    def test_names_that_are_no_things(self):
        full = bench_with(THINGS, (MAY, GAP) * 12)
        for bench in (Bench(THINGS), bench_with(THINGS, (MAY, BACK)), full):
            for one, other, name in (("x", "a", "x"), ("a", "x", "x"), ("x", "y", "x"), ("y", "x", "y"), ("x", "x", "x"),
                                     ("a", "a", "a"), ("s", "s", "s"), ("", "a", ""), ("a", "", ""), ("a", "A", "A"),
                                     ("point", "a", "point"), ("b", "ab", "ab")):
                found = self.refused(NoThing, bench, "may", one, other)
                self.assertExactly(found.name, name)
            for thing in ODD:
                if thing not in ("a", "b", "s"):
                    self.assertIs(self.refused(NoThing, bench, "may", thing, "a").name, thing)
                    self.assertIs(self.refused(NoThing, bench, "may", "s", thing).name, thing)
                    self.assertIs(self.refused(NoThing, bench, "may", thing, None).name, thing)

    def test_twenty_three_sayings(self):
        bench = bench_with(THINGS, (MAY, GAP) * 11 + (("gap", ("a", 0), ("s", 0), (0, 1), True),))
        self.assertExactly(bench.may("a", "b"), ("ahead", "same"))
        self.assertExactly(bench.may("s", "a"), ("behind",))
        self.assertEqual(self.look(bench), "yes")
        bench.put(BACK)
        self.assertEqual(self.look(bench), "no")


class Apart(Look):
    def test_two_benches_by_turns(self):
        one, other = Bench(THINGS), Bench(THINGS)
        one.put(MAY)
        other.push()
        other.put(BACK)
        one.put(BACK)
        self.stands(one, (THINGS, (MAY, BACK)), 0)
        self.stands(other, (THINGS, (BACK,)), 1)
        self.assertEqual((one.ask()[0], other.ask()[0]), ("no", "yes"))
        other.pop()
        self.stands(one, (THINGS, (MAY, BACK)), 0)
        self.stands(other, (THINGS, ()), 0)
        one.strike(1)
        self.assertEqual((one.ask()[0], other.ask()[0]), ("yes", "yes"))
        self.assertExactly(other.may("a", "b"), ("ahead", "same", "behind"))
        self.assertExactly(one.may("a", "b"), ("ahead", "same"))

    def test_what_was_told_stays(self):
        bench = bench_with(THINGS, (MAY, BACK))
        told = (bench.talk(), bench.ask(), bench.closed(), bench.clash(), bench.may("a", "s"))
        kept = copy.deepcopy(told)
        bench.strike(0)
        bench.put(GAP)
        bench.push()
        bench.ask()
        bench.clash()
        self.assertExactly(told, kept)
        self.assertExactly(told[0], (THINGS, (MAY, BACK)))

    def test_asked_twice(self):
        for sayings in ((MAY, GAP), (MAY, BACK), ()):
            bench = bench_with(THINGS, sayings)
            self.assertEqual(bench.ask()[0], bench.ask()[0])
            self.assertExactly(bench.closed()[0], bench.closed()[0])
            self.assertEqual(bench.clash() is None, bench.clash() is None)
            self.assertExactly(bench.may("b", "s"), bench.may("b", "s"))
            self.stands(bench, (THINGS, sayings), 0)


if __name__ == "__main__":
    unittest.main()
