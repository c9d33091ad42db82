"""The refusals, each with the fields that it is made of."""


class TieError(ValueError):
    """What all refusals of the package stand under."""


class NoHistory(TieError):
    """A thing is no history: the number of the first deed that can't stand there, and a word why."""

    def __init__(self, number, word):
        self.number = number
        self.word = word


class NoDeed(TieError):
    """A deed can't be done now: a word why."""

    def __init__(self, word):
        self.word = word


class NoMark(TieError):
    """A thing is no number of joins to go back to."""

    def __init__(self, thing):
        self.thing = thing


class NoText(TieError):
    """A thing is no written history: the number of the first row that is wrong."""

    def __init__(self, at):
        self.at = at


class NoRow(TieError):
    """A thing is no row that a desk reads: made of a text."""
