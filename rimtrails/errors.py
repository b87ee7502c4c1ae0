"""The errors that the package raises."""


class DiscError(ValueError):
    """A value is not what it should be; all errors that take a message are derived from this one."""


class InvalidDisc(DiscError):
    """Something is no disc."""


class InvalidPairing(DiscError):
    """Something is no pairing of the disc."""


class InvalidLeaning(DiscError):
    """Something is no leaning of the disc."""


class InvalidOrder(DiscError):
    """Something is no order."""


class InvalidSet(DiscError):
    """Something is no such tuple of rim places, or of sets of them."""


class InvalidNecklace(DiscError):
    """Something is no necklace."""


class InvalidDiagram(DiscError):
    """Something is no stair diagram."""


class InvalidMove(DiscError):
    """Something is no move of the disc."""


class InvalidCollection(DiscError):
    """Something is no collection of the order."""


class InvalidNumbers(DiscError):
    """Something are no numbers of the disc."""


class InvalidPoint(DiscError):
    """Something is no point of the order."""


class InvalidMatrix(DiscError):
    """Something is no matrix."""


class InvalidOperation(DiscError):
    """What was asked for cannot be done with these values."""


class ParseError(DiscError):
    """A value is no such line; its index is kept, or None."""

    def __init__(self, number):
        self.number = number


class UnknownName(KeyError):
    """A name was looked up that is none; it is kept."""

    def __init__(self, name):
        self.name = name


class InvalidNumber(IndexError):
    """A number is none that can stand here; it is kept."""

    def __init__(self, value):
        self.value = value


class NothingToUndo(RuntimeError):
    """There are fewer changes than were wanted; their wanted number is kept."""

    def __init__(self, wanted):
        self.wanted = wanted


class TooMany(OverflowError):
    """There is more of something than the limit, which is kept."""

    def __init__(self, limit):
        self.limit = limit


class Refused(ArithmeticError):
    """A change would break a pledge, which is kept."""

    def __init__(self, pledge):
        self.pledge = pledge
