"""A desk: a bench that is told rows of words, and answers each with a text."""

from whens.benches import Bench
from whens.drawing import drawn
from whens.errors import NoRow
from whens.talktexts import are_figures, read_saying, read_talk
from whens.tellings import is_name
from whens.turning import mirrored

NOTHING = "-"


def bench_of(talk):
    """A bench into which the sayings of a talk were put."""
    bench = Bench(talk[0])
    for saying in talk[1]:
        bench.put(saying)
    return bench


def shown_words(words):
    """Words parted by blanks, or the sign of nothing."""
    return " ".join(words) if len(words) > 0 else NOTHING


def told_put(bench, words):
    """put LINE"""
    things, sayings = bench.talk()
    return str(bench.put(read_saying(things, " ".join(words))))


def told_push(bench, words):
    """push"""
    bench.push()
    return str(bench.level())


def told_pop(bench, words):
    """pop"""
    bench.pop()
    return str(bench.level())


def told_strike(bench, words):
    """strike N"""
    bench.strike(int(words[0]))
    return "ok"


def told_level(bench, words):
    """level"""
    return str(bench.level())


def told_ask(bench, words):
    """ask"""
    return bench.ask()[0]


def told_may(bench, words):
    """may A B"""
    return shown_words(bench.may(words[0], words[1]))


def told_clash(bench, words):
    """clash"""
    found = bench.clash()
    return NOTHING if found is None else shown_words([str(number) for number in found[1]])


def told_draw(bench, words):
    """draw"""
    word, found = bench.ask()
    if word == "no":
        return NOTHING
    return " / ".join(drawn(bench.talk()[0], found))


ROWS = {
    "put": told_put, "push": told_push, "pop": told_pop, "strike": told_strike, "level": told_level, "ask": told_ask,
    "may": told_may, "clash": told_clash, "draw": told_draw,
}


def is_number_word(word):
    """Whether a word is one or two figures, no 0 ahead but in 0 itself."""
    return are_figures(word, 2) and str(int(word)) == word


def is_row(words):
    """Whether words are those of a row that a desk knows."""
    first = words[0]
    if first == "put":
        return len(words) > 1
    if first == "strike":
        return len(words) == 2 and is_number_word(words[1])
    if first == "may":
        return len(words) == 3 and is_name(words[1]) and is_name(words[2])
    return len(words) == 1 and (first in ROWS or first == "mirror")


class Desk:
    """A bench of a talk's things, and the rows that it is told."""

    def __init__(self, lines):
        self.bench = bench_of(read_talk(lines))

    def say(self, row):
        """The answer to a row."""
        if not isinstance(row, str) or not is_row(row.split(" ")):
            raise NoRow("no row that the desk knows")
        words = row.split(" ")
        if words[0] == "mirror":
            self.bench = bench_of(mirrored(self.bench.talk()))
            return "ok"
        action = ROWS[words[0]]
        return action(self.bench, words[1:])
