"""The refusals of the program."""


class CoilError(ValueError):
    """Any refusal."""


class NoText(CoilError):
    """A line of a text tells no row; number counts the lines from 0."""

    def __init__(self, number):
        CoilError.__init__(self, f"line {number} tells no row")
        self.number = number


class TooMany(CoilError):
    """What is asked for goes beyond a bound; many tells by what number."""

    def __init__(self, many):
        # The number isn't written out, as it may have more digits than Python writes.
        CoilError.__init__(self, "there are too many")
        self.many = many


class NoTelling(CoilError):
    """Rows that are well written, one by one, are no telling together."""
