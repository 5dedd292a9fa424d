"""Least clashes: few sayings that no telling keeps, none of which can be struck without the no being lost."""

from whens.behind import Behinds
from whens.checker import is_let_by
from whens.errors import NoClash
from whens.fractions import is_whole
from whens.judging import judged_by
from whens.talks import keeps
from whens.tellings import is_telling


def part(talk, numbers):
    """The talk's things with just the sayings of these numbers."""
    return (talk[0], tuple([talk[1][number] for number in numbers]))


def others(numbers, number):
    """The numbers without this one."""
    return tuple([other for other in numbers if other != number])


def are_numbers(talk, thing):
    """Whether any plain thing is a rising tuple of numbers of the talk's sayings."""
    if not isinstance(thing, tuple) or not all([is_whole(number) for number in thing]):
        return False
    if not all([0 <= number < len(talk[1]) for number in thing]):
        return False
    return list(thing) == sorted(set(thing))


def is_shaped(talk, thing):
    """Whether any plain thing is a tuple of numbers, whatever is said to be a paper, and as many things as numbers."""
    if not isinstance(thing, tuple) or len(thing) != 3 or not are_numbers(talk, thing[0]):
        return False
    return isinstance(thing[2], tuple) and len(thing[2]) == len(thing[0])


def lets_clash(talk, thing):
    """True where any plain thing is a paper of a least clash of the talk."""
    if not is_shaped(talk, thing):
        raise NoClash("shape", 0)
    numbers, paper, tellings = thing
    if not is_let_by(part(talk, numbers), paper):
        raise NoClash("paper", 0)
    for at, (number, telling) in enumerate(zip(numbers, tellings)):
        if not is_telling(talk[0], telling) or not keeps(part(talk, others(numbers, number)), telling):
            raise NoClash("kept", at)
    return True


def least_clash(talk):
    """("yes", a telling that keeps the talk), or ("clash", numbers, paper, tellings)."""
    behinds = Behinds()
    word, found = judged_by(talk, behinds)
    if word == "yes":
        return ("yes", found)
    left = tuple(range(len(talk[1])))
    paper = found
    tellings = []
    for number in range(len(talk[1])):
        fewer = others(left, number)
        word, found = judged_by(part(talk, fewer), behinds)
        if word == "no":
            left = fewer
            paper = found
        else:
            # It keeps whatever is left of these others in the end.
            tellings.append(found)
    return ("clash", left, paper, tuple(tellings))
