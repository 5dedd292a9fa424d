"""Talks as texts: shown row by row, and read again."""

from whens.errors import NoText
from whens.fractions import is_fraction
from whens.talks import MOST_SAYINGS
from whens.tellings import MOST_THINGS, ends_of, is_name, kinds_of, names_of
from whens.words import words_of

FIGURES = "0123456789"
MOST_FIGURES = 6


def shown_number(number):
    """A fraction as a NUMBER."""
    top, bottom = number
    return f"{top}/{bottom}" if bottom > 1 else f"{top}"


def are_figures(text, most):
    """Whether a text is one figure or more, at most so many."""
    return 1 <= len(text) <= most and all([sign in FIGURES for sign in text])


def read_number(text, most):
    """The fraction that is shown as this text, with at most so many figures in each of its numbers, or None."""
    top, slash, bottom = text.partition("/")
    if not are_figures(top.removeprefix("-"), most) or slash != "" and not are_figures(bottom, most):
        return None
    number = (int(top), int(bottom) if slash != "" else 1)
    return number if is_fraction(number) and shown_number(number) == text else None


def shown_end(things, end):
    """An end as an END."""
    name, number = end
    if dict(things)[name] == "point":
        return name
    return f"{name}.end" if number == 1 else f"{name}.begin"


def read_end(things, text):
    """The end that is shown as this text, or None."""
    for end in ends_of(things):
        if shown_end(things, end) == text:
            return end
    return None


def shown_saying(things, saying):
    """A saying as a text."""
    if saying[0] == "may":
        return " ".join(saying[:3] + saying[3])
    word, x, y, number, strict = saying
    text = f"{word} {shown_end(things, x)} {shown_end(things, y)} {shown_number(number)}"
    return f"{text} strict" if strict else text


def shown_talk(talk):
    """A talk as a list of texts."""
    things, sayings = talk
    return [f"{kind} {name}" for name, kind in things] + [shown_saying(things, saying) for saying in sayings]


def word_at(words, place, row):
    """The word at a place of a row that may have too few."""
    if place >= len(words):
        raise NoText(row, len(words))
    return words[place]


def read_name(things, words, place, row):
    """The name of one of the things at a place of a row."""
    name = word_at(words, place, row)
    if name not in names_of(things):
        raise NoText(row, place)
    return name


def read_may(things, words, row):
    """The saying of a row's words that begin with "may"."""
    a = read_name(things, words, 1, row)
    b = read_name(things, words, 2, row)
    if b == a:
        raise NoText(row, 2)
    left = words_of(kinds_of(things, a, b))
    word_at(words, 3, row)
    for place in range(3, len(words)):
        if words[place] not in left:
            raise NoText(row, place)
        left = left[left.index(words[place]) + 1:]
    return ("may", a, b, tuple(words[3:]))


def read_gap(things, words, row):
    """The saying of a row's words that begin with "gap"."""
    x = read_end(things, word_at(words, 1, row))
    if x is None:
        raise NoText(row, 1)
    y = read_end(things, word_at(words, 2, row))
    if y is None or y == x:
        raise NoText(row, 2)
    number = read_number(word_at(words, 3, row), MOST_FIGURES)
    if number is None:
        raise NoText(row, 3)
    strict = len(words) > 4
    if strict and words[4] != "strict":
        raise NoText(row, 4)
    if len(words) > 5:
        raise NoText(row, 5)
    return ("gap", x, y, number, strict)


def read_words(things, words, row):
    """The saying of a row's words."""
    if words[0] == "may":
        return read_may(things, words, row)
    if words[0] == "gap":
        return read_gap(things, words, row)
    raise NoText(row, 0)


def read_saying(things, text):
    """The saying of the things that is shown as this text."""
    return read_words(things, text.split(" "), 0)


def read_thing(things, words, row):
    """The thing of a row's words that begin with its kind, behind these things."""
    name = word_at(words, 1, row)
    if not is_name(name) or any([name <= other for other in names_of(things)]):
        raise NoText(row, 1)
    if len(words) > 2:
        raise NoText(row, 2)
    return (name, words[0])


def read_talk(rows):
    """The talk that is shown as these texts."""
    things = []
    sayings = []
    for row, text in enumerate(rows):
        words = text.split(" ")
        if words[0] in ("point", "stretch"):
            if sayings != [] or len(things) == MOST_THINGS:
                raise NoText(row, 0)
            things.append(read_thing(things, words, row))
        else:
            if things == [] or len(sayings) == MOST_SAYINGS:
                raise NoText(row, 0)
            sayings.append(read_words(things, words, row))
    if things == []:
        raise NoText(0, 0)
    return (tuple(things), tuple(sayings))
