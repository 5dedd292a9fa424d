"""Tellings drawn as texts, a row of signs for each thing and the times below, and read again."""

from whens.errors import NoText
from whens.fractions import is_below
from whens.talktexts import read_number, shown_number, word_at
from whens.tellings import MOST_THINGS, is_name

MOST_TIME_FIGURES = 200


def put_in(times, time):
    """The times, rising, with one more among them; as they are where it is there already."""
    if time in times:
        return times
    ahead = [other for other in times if is_below(other, time)]
    return ahead + [time] + times[len(ahead):]


def columns_of(things, telling):
    """The unlike times of all ends, rising."""
    columns = []
    for (name, kind), times in zip(things, telling):
        for time in (times,) if kind == "point" else times:
            columns = put_in(columns, time)
    return columns


def signs_of(kind, times, columns):
    """The signs of a thing, one for each column."""
    signs = ["."] * len(columns)
    if kind == "point":
        signs[columns.index(times)] = "o"
    else:
        begin = columns.index(times[0])
        end = columns.index(times[1])
        signs[begin:end + 1] = ["["] + ["="] * (end - begin - 1) + ["]"]
    return "".join(signs)


def drawn(things, telling):
    """The telling as a list of texts."""
    columns = columns_of(things, telling)
    rows = [f"{name} {signs_of(kind, times, columns)}" for (name, kind), times in zip(things, telling)]
    return rows + [" ".join(["@"] + [shown_number(time) for time in columns])]


def read_signs(signs):
    """The columns of the ends of a thing with these signs, one of a point, two of a stretch; None of other signs."""
    inner = signs.strip(".")
    begin = len(signs) - len(signs.lstrip("."))
    if inner == "o":
        return [begin]
    if inner == "[" + "=" * (len(inner) - 2) + "]":
        return [begin, begin + len(inner) - 1]
    return None


def read_thing_row(words, row, ahead):
    """The name and the ends' columns of a thing's row, and how many columns there are; ahead are those above it."""
    name = words[0]
    if len(ahead) == MOST_THINGS or not is_name(name) or ahead != [] and name <= ahead[-1][0]:
        raise NoText(row, 0)
    signs = word_at(words, 1, row)
    places = read_signs(signs)
    if places is None or ahead != [] and len(signs) != ahead[0][2]:
        raise NoText(row, 1)
    if len(words) > 2:
        raise NoText(row, 2)
    return (name, places, len(signs))


def read_times(words, row, ahead):
    """The times of the last row, below the rows of things ahead."""
    used = [place for name, places, many in ahead for place in places]
    times = []
    for column in range(ahead[0][2]):
        time = read_number(word_at(words, column + 1, row), MOST_TIME_FIGURES)
        if time is None or times != [] and not is_below(times[-1], time) or column not in used:
            raise NoText(row, column + 1)
        times.append(time)
    if len(words) > len(times) + 1:
        raise NoText(row, len(times) + 1)
    return times


def read_thing_rows(lines):
    """What read_thing_row tells of each row ahead of the last one, which begins with "@"; that one's words."""
    ahead = []
    for row, line in enumerate(lines):
        words = line.split(" ")
        if words[0] == "@" and ahead != []:
            return ahead, words
        ahead.append(read_thing_row(words, row, ahead))
    raise NoText(len(lines), 0)


def read_drawing(lines):
    """The things and the telling of a drawing."""
    ahead, words = read_thing_rows(lines)
    times = read_times(words, len(ahead), ahead)
    if len(lines) > len(ahead) + 1:
        raise NoText(len(ahead) + 1, 0)
    things = tuple([(name, "point" if len(places) == 1 else "stretch") for name, places, many in ahead])
    found = [[times[place] for place in places] for name, places, many in ahead]
    return (things, tuple([ends[0] if len(ends) == 1 else tuple(ends) for ends in found]))
