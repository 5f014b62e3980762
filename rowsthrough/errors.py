"""All errors of the package."""


class RowError(ValueError):
    """The base of most errors of the package."""


class InvalidField(RowError):
    """What was passed is no field, or makes none."""


class InvalidWord(RowError):
    """What was passed is no word of the field, or no such words."""


class InvalidMatrix(RowError):
    """What was passed is no such rows, or no such side."""


class InvalidPolynomial(RowError):
    """What was passed is no linearised polynomial over the field."""


class InvalidCode(RowError):
    """What was passed is no such code, or no such points of one."""


class InvalidNet(RowError):
    """What was passed is no net, or makes none."""


class InvalidPoints(RowError):
    """What was passed is no such tuple of points."""


class InvalidLinks(RowError):
    """What was passed is no such tuple of links."""


class InvalidName(RowError):
    """What was passed is no name."""


class InvalidText(RowError):
    """What was passed is no such text."""


class InvalidOperation(RowError):
    """This cannot be done with these arguments."""


class ParseError(RowError):
    """A text cannot be read; `spot` tells where."""

    def __init__(self, spot):
        self.spot = spot


class InvalidNumber(IndexError):
    """A number is not such a one; `given` is what was passed."""

    def __init__(self, given):
        self.given = given


class UnknownName(KeyError):
    """There is nothing of the name `asked`."""

    def __init__(self, asked):
        self.asked = asked


class NothingToUndo(LookupError):
    """Fewer things than `wanted` can be undone."""

    def __init__(self, wanted):
        self.wanted = wanted


class TooMany(OverflowError):
    """There would be more than `limit`."""

    def __init__(self, limit):
        self.limit = limit


class Refused(ArithmeticError):
    """This is refused; `reason` tells why."""

    def __init__(self, reason):
        self.reason = reason
