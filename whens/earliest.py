"""Plain talks: the earliest telling that fits, or a paper that shows that none does."""

from whens.closing import closed
from whens.errors import NoPlain
from whens.plain import is_plain, signs_in
from whens.tellings import ends_of, kinds_of, telling_of
from whens.words import END_COUNTS


def refuse_not_plain(talk):
    """Refuses a talk with the number of its first saying whose may isn't plain."""
    for number, saying in enumerate(talk[1]):
        if saying[0] == "may" and not is_plain(kinds_of(talk[0], saying[1], saying[2]), saying[3]):
            raise NoPlain(number)


def waits_between(x, y, signs):
    """What the signs of two ends ask: (one, other, many): the other is laid at least so many behind the one."""
    found = []
    if 1 not in signs:
        found.append((x, y, 0 if 0 in signs else 1))
    if -1 not in signs:
        found.append((y, x, 0 if 0 in signs else 1))
    return found


def waits_of(things, saying):
    """What a plain may saying asks of ends, as waits_between has it."""
    word, a, b, words = saying
    kinds = kinds_of(things, a, b)
    found = []
    for x in range(END_COUNTS[kinds[0]]):
        for y in range(END_COUNTS[kinds[1]]):
            found.extend(waits_between((a, x), (b, y), signs_in(kinds, words, x, y)))
    return found


def all_waits(talk):
    """What the stretches and the may sayings of a plain talk ask of ends."""
    found = [((name, 0), (name, 1), 1) for name, kind in talk[0] if kind == "stretch"]
    for saying in talk[1]:
        if saying[0] == "may":
            found.extend(waits_of(talk[0], saying))
    return found


def earliest_times(talk):
    """For each end its earliest time, of a plain talk that some telling fits."""
    waits = all_waits(talk)
    times = {end: 0 for end in ends_of(talk[0])}
    moving = True
    # Comes to an end: no end is ever laid later than in any fitting telling.
    while moving:
        moving = False
        for one, other, many in waits:
            if times[other] < times[one] + many:
                times[other] = times[one] + many
                moving = True
    return times


def earliest(talk):
    """("yes", the earliest fitting telling of a plain talk), or ("no", a paper)."""
    refuse_not_plain(talk)
    word, found = closed(talk)
    if word == "clash":
        return ("no", found)
    times = earliest_times(talk)
    return ("yes", telling_of(talk[0], {end: (times[end], 1) for end in times}))
