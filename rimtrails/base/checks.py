"""The errors of [0.7] for parameters that many functions have."""

from rimtrails.base.discs import MAX_RIM, Disc
from rimtrails.base.words import is_integer
from rimtrails.errors import InvalidDisc, InvalidNumber, UnknownName


def check_disc(disc):
    """Raises the error for what is no disc."""
    if not isinstance(disc, Disc):
        raise InvalidDisc("this is no disc")


def check_tie(disc, tie):
    """Raises the error for what is no tie of the disc."""
    if tie not in disc:
        raise UnknownName(tie)


def check_number(value, least, greatest):
    """Raises the error for what is no integer from the least to the greatest one."""
    if not is_integer(value) or not least <= value <= greatest:
        raise InvalidNumber(value)


def check_many(many):
    """Raises the error for what is no number of rim places."""
    check_number(many, 1, MAX_RIM)
