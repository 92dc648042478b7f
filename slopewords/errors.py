"""The errors of the package.

An error that keeps a value leaves its message to Python, which shows that value.
"""


class SlopeError(ValueError):
    """An error about a value that is not of the kind that is asked for."""


class InvalidPoly(SlopeError):
    """A value that is no polynomial modulo the prime."""


class InvalidFunction(SlopeError):
    """A value that is no function, or no tuple of functions."""


class InvalidPlace(SlopeError):
    """A value that is no place."""


class InvalidTable(SlopeError):
    """A value that is no table, no column, or no norm polynomial."""


class InvalidOperator(SlopeError):
    """A value that is no operator, or no tuple of entries of one."""


class InvalidName(SlopeError):
    """A value that is no name on a desk."""


class InvalidOperation(SlopeError):
    """Values that do not go together, or with which nothing can be done."""


class ParseError(SlopeError):
    """A text that cannot be read, with the spot of its first fault."""

    def __init__(self, spot):
        self.spot = spot


class InvalidNumber(IndexError):
    """A value that is no integer within its bounds."""

    def __init__(self, given):
        self.given = given


class UnknownName(KeyError):
    """A name that stands for nothing."""

    def __init__(self, wanted):
        self.wanted = wanted


class TooMany(OverflowError):
    """More than the limit that is kept."""

    def __init__(self, limit):
        self.limit = limit


class Refused(ArithmeticError):
    """Something that cannot be done, with the reason."""

    def __init__(self, reason):
        self.reason = reason


class NothingToUndo(LookupError):
    """More steps than there are to be taken back, or to be done again."""

    def __init__(self, steps):
        self.steps = steps
