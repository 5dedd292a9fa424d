"""The refusals: each keeps the very things that it was made of and looks at none of them."""


class SayError(ValueError):
    """Any refusal."""


class NoText(SayError):
    """Texts that can not be read: the first row that can not stand, and its first word that can not."""

    def __init__(self, row, word):
        self.row = row
        self.word = word


class NoPaper(SayError):
    """A thing that the checker doesn't let by: where it was met, and what is wrong there."""

    def __init__(self, path, word):
        self.path = path
        self.word = word


class NoPlain(SayError):
    """A talk that isn't plain: the number of its first saying whose may isn't."""

    def __init__(self, number):
        self.number = number


class TooMany(SayError):
    """More than there may be of what the word names."""

    def __init__(self, word):
        self.word = word


class NoSpan(SayError):
    """What doesn't show how far two ends can lie apart: the word tells what is wrong."""

    def __init__(self, word):
        self.word = word


class NoClash(SayError):
    """No paper of a least clash: what is wrong, and at which number."""

    def __init__(self, word, number):
        self.word = word
        self.number = number


class NoThing(SayError):
    """A name that is no thing's, or that is named twice."""

    def __init__(self, name):
        self.name = name


class NoSaying(SayError):
    """No saying of the things."""


class NoLevel(SayError):
    """There is no level to go down from."""


class NoNumber(SayError):
    """No saying's number."""


class NoRow(SayError):
    """A row that a desk doesn't know."""
