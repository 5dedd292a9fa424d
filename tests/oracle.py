"""The document's tellings, sayings, rows, steps and papers once more, told by times that are laid out, not by tables."""

import functools
import itertools
from fractions import Fraction

from layouts import ORDER, TURNED, WORDS, end_numbers, laid_out, way, word_laid


@functools.lru_cache(maxsize=None)
def sample(kinds, word):
    """Begins and ends of two things that have the word."""
    for one in laid_out(kinds[0], range(4)):
        for other in laid_out(kinds[1], range(4)):
            if word_laid(kinds, one, other) == word:
                return one, other
    raise AssertionError((kinds, word))


@functools.lru_cache(maxsize=None)
def behind_laid(kinds, one, other):
    """The words of the first with the third in times of six marks where both words are so."""
    found = set()
    for b in laid_out(kinds[1], range(6)):
        firsts = [a for a in laid_out(kinds[0], range(6)) if word_laid(kinds[:2], a, b) == one]
        thirds = [c for c in laid_out(kinds[2], range(6)) if word_laid(kinds[1:], b, c) == other]
        found |= {word_laid((kinds[0], kinds[2]), a, c) for a in firsts for c in thirds}
    return found


def fraction_of(number):
    return Fraction(number[0], number[1])


def laid_by(things, telling):
    """The begin and the end of each named thing of a telling."""
    found = {}
    for (name, kind), times in zip(things, telling):
        two = (times, times) if kind == "point" else times
        found[name] = tuple(fraction_of(time) for time in two)
    return found


def word_in(things, telling, a, b):
    """The word that two named things have in a telling."""
    kinds, laid = dict(things), laid_by(things, telling)
    return word_laid((kinds[a], kinds[b]), laid[a], laid[b])


def is_row_so(things, telling, row):
    """Whether a telling has a row, may or gap."""
    if len(row) == 3:
        return word_in(things, telling, row[0], row[1]) in row[2]
    laid = laid_by(things, telling)
    (a, x), (b, y), number, strict = row
    apart = laid[a][x] - laid[b][y]
    return apart < fraction_of(number) if strict else apart <= fraction_of(number)


def is_fault_row(row):
    """Whether a row is a fault."""
    if len(row) == 3:
        return len(row[2]) == 0
    return row[0] == row[1] and (fraction_of(row[2]) < 0 or fraction_of(row[2]) == 0 and row[3])


def is_number(thing, many):
    return type(thing) is int and 0 <= thing < many


def is_end_of(things, thing):
    kinds = dict(things)
    if type(thing) is not tuple or len(thing) != 2 or type(thing[0]) is not str or thing[0] not in kinds:
        return False
    return type(thing[1]) is int and (thing[1] == 0 or thing[1] == 1 and kinds[thing[0]] == "stretch")


def is_of_two(things, a, b):
    kinds = dict(things)
    return type(a) is str and type(b) is str and a in kinds and b in kinds and a != b


def in_order(words):
    return tuple(word for word in ORDER if word in words)


def way_in(things, row, word, x, y):
    """How x stands to y in a word of a may row."""
    a, b, words = row
    kinds = dict(things)
    laid = dict(zip((a, b), sample((kinds[a], kinds[b]), word)))
    return way(laid[x[0]][x[1]], laid[y[0]][y[1]])


def row_given(talk, rows, step):
    """The row that a thing gives as a step, or None."""
    things, sayings = talk
    kinds = dict(things)
    if type(step) is not tuple or len(step) < 2 or type(step[0]) is not str:
        return None
    name, given = step[0], step[1:]
    if name == "told" and len(given) == 1 and is_number(given[0], len(sayings)):
        return tuple(sayings[given[0]][1:])
    if name == "any" and len(given) == 2 and is_of_two(things, *given):
        return (given[0], given[1], WORDS[kinds[given[0]], kinds[given[1]]])
    if name == "long" and len(given) == 1 and type(given[0]) is str and kinds.get(given[0]) == "stretch":
        return ((given[0], 0), (given[0], 1), (0, 1), True)
    if name == "ends" and len(given) == 3 and is_number(given[0], len(rows)):
        return ends_given(things, rows[given[0]], given[1], given[2])
    if name == "turned" and len(given) == 1 and is_number(given[0], len(rows)):
        row = rows[given[0]]
        return (row[1], row[0], in_order([TURNED[word] for word in row[2]])) if len(row) == 3 else None
    if len(given) == 2 and is_number(given[0], len(rows)) and is_number(given[1], len(rows)):
        return of_two_rows(things, name, rows[given[0]], rows[given[1]])
    return None


def ends_given(things, row, x, y):
    if len(row) != 3 or not row[2] or not is_end_of(things, x) or not is_end_of(things, y):
        return None
    if {x[0], y[0]} != {row[0], row[1]}:
        return None
    ways = {way_in(things, row, word, x, y) for word in row[2]}
    return None if 1 in ways else (x, y, (0, 1), ways == {-1})


def of_two_rows(things, name, one, other):
    kinds = dict(things)
    if name == "behind" and len(one) == 3 and len(other) == 3 and one[1] == other[0] and one[0] != other[1]:
        three = (kinds[one[0]], kinds[one[1]], kinds[other[1]])
        found = set().union(*[behind_laid(three, a, b) for a in one[2] for b in other[2]])
        return (one[0], other[1], in_order(found))
    if name == "both" and len(one) == 3 and len(other) == 3 and one[:2] == other[:2]:
        return (one[0], one[1], in_order(set(one[2]) & set(other[2])))
    if name == "strike" and len(one) == 3 and len(other) == 4:
        x, y, number, strict = other
        if {x[0], y[0]} != {one[0], one[1]} or fraction_of(number) > 0:
            return None
        good = (-1,) if strict or fraction_of(number) < 0 else (-1, 0)
        return (one[0], one[1], tuple(word for word in one[2] if way_in(things, one, word, x, y) in good))
    if name == "add" and len(one) == 4 and len(other) == 4 and one[1] == other[0]:
        total = fraction_of(one[2]) + fraction_of(other[2])
        return (one[0], other[1], (total.numerator, total.denominator), one[3] or other[3])
    return None


def is_case(things, row, part):
    """Whether a thing is a part of cases of the row, whatever its paper."""
    if type(part) is not tuple or len(part) != 2 or type(part[0]) is not tuple:
        return False
    if not all(type(word) is str for word in part[0]):
        return False
    return part[0] == in_order(part[0]) and set(part[0]) <= set(row[2])


def refusal(talk, thing, rows=(), path=(), deep=1):
    """Path and word of the first that the checker has to refuse, or None where the thing is let by."""
    if type(thing) is not tuple:
        return (path, "shape")
    rows = list(rows)
    for place, step in enumerate(thing):
        row = row_given(talk, rows, step)
        if row is not None:
            rows.append(row)
            continue
        here = path + (place,)
        if place != len(thing) - 1 or type(step) is not tuple or len(step) != 3 or step[0] != "cases" or deep > 12:
            return (here, "step")
        if not is_number(step[1], len(rows)) or len(rows[step[1]]) != 3:
            return (here, "step")
        may, parts = rows[step[1]], step[2]
        if type(parts) is not tuple or not parts or not all(is_case(talk[0], may, part) for part in parts):
            return (here, "step")
        if set().union(*[part[0] for part in parts]) != set(may[2]):
            return (here, "step")
        for number, (words, paper) in enumerate(parts):
            found = refusal(talk, paper, rows + [(may[0], may[1], words)], here + (number,), deep + 1)
            if found is not None:
                return found
        return None
    return None if thing and is_fault_row(rows[-1]) else (path, "open")


def all_tellings(things, marks):
    """Each telling of the things with times among the marks, whole numbers."""
    choices = []
    for name, kind in things:
        laid = laid_out(kind, marks)
        choices.append([(a, 1) if kind == "point" else ((a, 1), (b, 1)) for a, b in laid])
    return itertools.product(*choices)


def some_things(dice, many):
    """Things of so many names, kinds chosen by the dice."""
    return tuple((name, dice.choice(("point", "stretch"))) for name in ("a", "ab", "b", "m", "x", "z")[:many])


def some_ends(dice, things):
    """Two unlike ends; there have to be two."""
    ends = [(name, number) for name, kind in things for number in ((0,) if kind == "point" else (0, 1))]
    return tuple(dice.sample(ends, 2))


def some_number(dice):
    number = Fraction(dice.randrange(-9, 10), dice.choice((1, 1, 2, 3, 4, 999999)))
    return (number.numerator, number.denominator)


def some_saying(dice, things):
    """A saying of the things, of which there are two or more."""
    if dice.random() < 0.4:
        x, y = some_ends(dice, things)
        return ("gap", x, y, some_number(dice), dice.random() < 0.5)
    (a, one), (b, other) = dice.sample(things, 2)
    words = WORDS[one, other]
    chosen = dice.sample(words, dice.randrange(1, len(words) + 1))
    return ("may", a, b, in_order(chosen))


def some_telling(dice, things):
    """A telling of the things whose times often fall together."""
    found = []
    for name, kind in things:
        times = sorted(dice.sample([Fraction(n, d) for d in (1, 2) for n in range(7) if n % d or d == 1], 2))
        pairs = tuple((time.numerator, time.denominator) for time in times)
        found.append(pairs[0] if kind == "point" else pairs)
    return tuple(found)


def mays_said(talk):
    """What the may sayings leave to each two things, the first ahead of the second: sets of words."""
    things, sayings = talk
    kinds = dict(things)
    names = [name for name, kind in things]
    found = {(a, b): set(WORDS[kinds[a], kinds[b]]) for a, b in itertools.combinations(names, 2)}
    for saying in sayings:
        if saying[0] == "may" and (saying[1], saying[2]) in found:
            found[saying[1], saying[2]] &= set(saying[3])
        elif saying[0] == "may":
            found[saying[2], saying[1]] &= {TURNED[word] for word in saying[3]}
    return found


def closed_laid(talk):
    """The greatest closed table, by going round until nothing goes, or None."""
    things = talk[0]
    kinds = dict(things)
    left = mays_said(talk)
    for a, b in list(left):
        left[b, a] = {TURNED[word] for word in left[a, b]}
    gone = True
    while gone:
        gone = False
        for a, b, c in itertools.permutations(kinds, 3):
            three = (kinds[a], kinds[b], kinds[c])
            can = set().union(*[behind_laid(three, one, other) for one in left[a, b] for other in left[b, c]])
            if not left[a, c] <= can:
                left[a, c] &= can
                left[c, a] = {TURNED[word] for word in left[a, c]}
                gone = True
    names = [name for name, kind in things]
    table = tuple((a, b, in_order(left[a, b])) for a, b in itertools.combinations(names, 2))
    return None if () in [row[2] for row in table] else table


def laid_into(kind, many):
    """Each begin and end that a thing can have beside so many unlike marks, which are 2, 5, 8 ..; each order once."""
    single = [mark for at in range(many) for mark in (3 * at, 3 * at + 2)] + [3 * many]
    if kind == "point":
        return [(mark, mark) for mark in single]
    return list(itertools.combinations(single, 2)) + [(3 * at, 3 * at + 1) for at in range(many + 1)]


def orders(things, mays, laid=()):
    """Each order of the ends, as begins and ends that are ranks, in which each two things have one of their words."""
    if len(laid) == len(things):
        yield laid
        return
    name, kind = things[len(laid)]
    marks = len({mark for two in laid for mark in two})
    for new in laid_into(kind, marks):
        wider = [(3 * a + 2, 3 * b + 2) for a, b in laid]
        good = all(word_laid((one, kind), two, new) in mays[other, name] for (other, one), two in zip(things, wider))
        if good:
            rank = {mark: at for at, mark in enumerate(sorted({mark for two in wider + [new] for mark in two}))}
            yield from orders(things, mays, tuple((rank[a], rank[b]) for a, b in wider + [new]))


def fitting(talk):
    """Each order in which a telling fits, as a telling of the least whole numbers; gap sayings are passed over."""
    things = talk[0]
    for laid in orders(things, mays_said(talk)):
        yield tuple((a, 1) if kind == "point" else ((a, 1), (b, 1)) for (name, kind), (a, b) in zip(things, laid))


def table_laid(things, telling):
    """The table of the words that two things have in a telling."""
    return tuple((a, b, (word_in(things, telling, a, b),)) for (a, k), (b, l) in itertools.combinations(things, 2))


def some_may_saying(dice, things, most):
    """A may saying of at most so many words."""
    (a, one), (b, other) = dice.sample(things, 2)
    words = WORDS[one, other]
    return ("may", a, b, in_order(dice.sample(words, dice.randrange(1, min(most, len(words)) + 1))))


def some_gap_saying(dice, things):
    x, y = some_ends(dice, things)
    return ("gap", x, y, some_number(dice), dice.random() < 0.5)


def some_talk(dice, things, mays, gaps=0, most=13):
    """A talk of two things or more with so many may sayings, and gap sayings among them."""
    sayings = [some_may_saying(dice, things, most) for at in range(mays)]
    sayings += [some_gap_saying(dice, things) for at in range(gaps)]
    dice.shuffle(sayings)
    return (things, tuple(sayings))


def kept_talk(dice, things, mays, gaps=0, most=13):
    """A talk likewise whose may sayings some telling keeps."""
    telling = some_telling(dice, things)
    sayings = []
    for saying in some_talk(dice, things, mays, gaps, most)[1]:
        if saying[0] == "may":
            saying = saying[:3] + (in_order(saying[3] + (word_in(things, telling, saying[1], saying[2]),)),)
        sayings.append(saying)
    return (things, tuple(sayings))


def ways_laid(kinds, word):
    """For each end of the one and each of the other how they stand, by times that have the word."""
    one, other = sample(kinds, word)
    return {(x, y): way(one[x], other[y]) for x in end_numbers(kinds[0]) for y in end_numbers(kinds[1])}


def around_laid(kinds, may):
    """The plain may around a may, by the document's words."""
    by_word = {word: ways_laid(kinds, word) for word in WORDS[kinds]}
    spans = {}
    for ends in by_word[WORDS[kinds][0]]:
        signs = {by_word[word][ends] for word in may}
        spans[ends] = signs | {0} if {-1, 1} <= signs else signs
    return tuple(word for word in WORDS[kinds] if all(by_word[word][ends] in spans[ends] for ends in spans))


def plain_talk(talk):
    """The talk with the plain mays around those of its may sayings."""
    things, sayings = talk
    kinds = dict(things)
    plain = [saying if saying[0] == "gap" else
             saying[:3] + (around_laid((kinds[saying[1]], kinds[saying[2]]), saying[3]),) for saying in sayings]
    return (things, tuple(plain))


def fits(talk, telling):
    """Whether a telling keeps all may sayings of a talk."""
    return all(is_row_so(talk[0], telling, saying[1:]) for saying in talk[1] if saying[0] == "may")


def told_numbers(paper):
    """The numbers of all sayings that a paper tells, within cases, too."""
    found = []
    for step in paper:
        if step[0] == "told":
            found.append(step[1])
        if step[0] == "cases":
            for words, inner in step[2]:
                found += told_numbers(inner)
    return found
