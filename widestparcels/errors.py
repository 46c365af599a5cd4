"""The errors of the program. Each one keeps the very values that it was made of."""


class ParcelError(ValueError):
    """The base class of all errors of the program."""


class BadNumber(ParcelError):
    """A number is out of its range, or a value is no integer."""

    def __init__(self, what, value):
        self.what = what
        self.value = value


class BadOrder(ParcelError):
    """The width at the place is not greater than the one before it."""

    def __init__(self, place):
        self.place = place


class BadPair(ParcelError):
    """The pair at the place tells no probe, or no answer to it."""

    def __init__(self, place):
        self.place = place


class BadRow(ParcelError):
    """The value is not a row of numbers of widths."""

    def __init__(self, value):
        self.value = value


class BadPlan(ParcelError):
    """A plan has no good number for the state."""

    def __init__(self, state, reason):
        self.state = state
        self.reason = reason


class BadPaper(ParcelError):
    """The pair at the place of a certificate does not hold."""

    def __init__(self, place, reason):
        self.place = place
        self.reason = reason


class BadFoe(ParcelError):
    """A foe has no good answer for the state and the number below."""

    def __init__(self, state, number, reason):
        self.state = state
        self.number = number
        self.reason = reason


class BadText(ParcelError):
    """The line of a text, counted from 1, has another form or stands at a wrong place."""

    def __init__(self, line):
        self.line = line


class BadDeed(ParcelError):
    """The pair at the place cannot be told, and so none of them is."""

    def __init__(self, place):
        self.place = place


class TooMany(ParcelError):
    """There are more than the limit."""

    def __init__(self, limit):
        self.limit = limit


class Impossible(ParcelError):
    """The log can come of no width of its road."""


class Unlike(ParcelError):
    """Two things do not belong together: other roads, or rows of other lengths."""


class NothingToUndo(ParcelError):
    """Not so many pairs can be taken back."""
