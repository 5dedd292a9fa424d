"""Benches: sayings that come and go in levels, and what is so of those that are there."""

from whens.closing import closed
from whens.errors import NoLevel, NoNumber, NoSaying, NoThing, TooMany
from whens.judging import can_have, judged
from whens.least import least_clash
from whens.rows import is_place
from whens.talks import MOST_SAYINGS, is_saying
from whens.tellings import names_of


class Bench:
    """Sayings of some things, each with the level that it was put in at."""

    def __init__(self, things):
        self.things = things
        self.kept = []
        self.pushed = 0

    def put(self, saying):
        """Puts a saying in behind all others; its number."""
        if not is_saying(self.things, saying):
            raise NoSaying("no saying of the bench's things")
        if len(self.kept) == MOST_SAYINGS:
            raise TooMany("sayings")
        self.kept.append((self.pushed, saying))
        return len(self.kept) - 1

    def push(self):
        """Goes one level up."""
        self.pushed += 1

    def pop(self):
        """Goes one level down; what was put in at the level goes."""
        if self.pushed == 0:
            raise NoLevel("the bench is at level 0")
        self.kept = [(at, saying) for at, saying in self.kept if at < self.pushed]
        self.pushed -= 1

    def strike(self, number):
        """Takes the saying of a number away, whichever level it is of."""
        if not is_place(number, len(self.kept)):
            raise NoNumber("no saying's number")
        del self.kept[number]

    def level(self):
        """How many levels up the bench is."""
        return self.pushed

    def talk(self):
        """The talk of now."""
        return (self.things, tuple([saying for at, saying in self.kept]))

    def ask(self):
        """As judged tells of the talk."""
        return judged(self.talk())

    def closed(self):
        """As closed tells of the talk."""
        return closed(self.talk())

    def clash(self):
        """As least_clash tells of the talk, but None where some telling keeps it."""
        found = least_clash(self.talk())
        return None if found[0] == "yes" else found

    def may(self, one, other):
        """The words that two named things have in some telling that keeps the talk."""
        names = names_of(self.things)
        if one not in names:
            raise NoThing(one)
        if other not in names or other == one:
            raise NoThing(other)
        return can_have(self.talk(), one, other)
