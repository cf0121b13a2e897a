"""The errors of the package."""


class WildError(ValueError):
    """What is not of the kind that it should be."""


class InvalidPolynomial(WildError):
    """No polynomial as it is asked for."""


class InvalidField(WildError):
    """No field, or none as it is asked for."""


class InvalidMember(WildError):
    """No member of the field, or no digit of it."""


class InvalidMap(WildError):
    """No map from the one field to the other one."""


class InvalidTest(WildError):
    """No test of norms."""


class InvalidLot(WildError):
    """No lot of numbers or of maps."""


class InvalidName(WildError):
    """No name, or no things with names."""


class InvalidOperation(WildError):
    """What cannot be done with these values."""


class ParseError(WildError):
    """A text that tells nothing; keeps where it goes wrong."""

    def __init__(self, spot):
        self.spot = spot


class InvalidNumber(IndexError):
    """A number out of its bounds; keeps what was given."""

    def __init__(self, given):
        self.given = given


class UnknownName(KeyError):
    """A name that is not there; keeps what was asked for."""

    def __init__(self, asked):
        self.asked = asked


class NothingToUndo(LookupError):
    """Fewer calls than should be undone; keeps how many were wanted."""

    def __init__(self, wanted):
        self.wanted = wanted


class TooMany(OverflowError):
    """More than the package deals with; keeps the limit."""

    def __init__(self, limit):
        self.limit = limit


class Refused(ArithmeticError):
    """What is refused by its nature; keeps the reason."""

    def __init__(self, reason):
        self.reason = reason
