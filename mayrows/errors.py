"""The errors of the package [1.1, 1.2]."""


class MayrowError(ValueError):
    """What the errors of wrong values are derived from."""


class InvalidText(MayrowError):
    """A value is no text, question or answer text."""


class InvalidRow(MayrowError):
    """A value is no mayrow, or values make none."""


class InvalidTable(MayrowError):
    """A value is no table, or values make none."""


class InvalidPasses(MayrowError):
    """A value is no plain row, or values make none."""


class InvalidOperation(MayrowError):
    """Values that are right alone do not fit one another, or the moment."""


class InvalidPromise(MayrowError):
    """A value is no promise."""


class InvalidBook(MayrowError):
    """A value is no book."""


class ParseError(MayrowError):
    """A text cannot be read; `spot` tells where."""

    def __init__(self, spot):
        self.spot = spot


class InvalidNumber(IndexError):
    """`given` is no number of the wanted range."""

    def __init__(self, given):
        self.given = given


class UnknownName(KeyError):
    """There is nothing that is called `wanted`."""

    def __init__(self, wanted):
        self.wanted = wanted


class TooMany(OverflowError):
    """There are more than `most` of something."""

    def __init__(self, most):
        self.most = most


class Refused(ArithmeticError):
    """Something is not done; `reason` is a tuple that begins with a word."""

    def __init__(self, reason):
        self.reason = reason


class NothingToUndo(LookupError):
    """There are fewer than `many` versions to go back."""

    def __init__(self, many):
        self.many = many
