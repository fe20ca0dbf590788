"""The errors that this package raises: all of them are derived from StillError."""


class StillError(ValueError):
    """The base class of all errors that this package raises."""


class BadExpression(StillError):
    """A text is not the text of an expression."""

    def __init__(self, text):
        self.text = text


class BadLine(StillError):
    """A line has no form that may stand there."""

    def __init__(self, line):
        self.line = line


class UnknownName(StillError):
    """A line uses a word that is not known there."""

    def __init__(self, line, name):
        self.line = line
        self.name = name


class TakenName(StillError):
    """A line gives a name that is in use already."""

    def __init__(self, line, name):
        self.line = line
        self.name = name


class OutOfBounds(StillError):
    """A line breaks a bound."""

    def __init__(self, line):
        self.line = line


class NeedsRule(StillError):
    """A step has no rule, though two wishes might name one cell."""

    def __init__(self, line):
        self.line = line


class NoArray(StillError):
    """A program has no array of this name."""

    def __init__(self, name):
        self.name = name


class TooLong(StillError):
    """More numbers are given for an array than it has cells."""

    def __init__(self, name):
        self.name = name


class BadCrew(StillError):
    """A crew cannot be made, because of this field."""

    def __init__(self, field):
        self.field = field


class BadStorm(StillError):
    """The word of this tick does not fit the workers."""

    def __init__(self, tick):
        self.tick = tick


class Disagree(StillError):
    """Two workers write different values into one cell."""

    def __init__(self, region, index):
        self.region = region
        self.index = index


class NotEnded(StillError):
    """A plain run does not end within so many steps."""

    def __init__(self, most):
        self.most = most


class BadTable(StillError):
    """A row of a table is not as it must be."""

    def __init__(self, row):
        self.row = row


class BadText(StillError):
    """A line of a text is not as it must be."""

    def __init__(self, line):
        self.line = line


class PartOver(StillError):
    """The part is over already."""


class NotOver(StillError):
    """The part is not over behind the storm."""


class BadRound(StillError):
    """The storm that is to come again has no words."""


class HasNotes(StillError):
    """A way with note cells has no table."""


class EndlessTable(StillError):
    """Somebody can be idle without end under this table."""
