"""Integers, names and fractions."""

from math import gcd

from rimtrails.errors import InvalidNumber, InvalidOperation

MAX_LETTERS = 8
MAX_FIGURES = 60

# The exponent is MAX_FIGURES, written out because exponents are literals in this package.
_LEAST_TOO_LONG = 10 ** 60

_LETTERS = "abcdefghijklmnopqrstuvwxyz"
_NAMES = 702


def is_whole(value):
    """Whether the value is an integer, of any length."""
    return isinstance(value, int) and not isinstance(value, bool)


def is_integer(value):
    """Whether the value is an integer of at most sixty digits."""
    return is_whole(value) and -_LEAST_TOO_LONG < value < _LEAST_TOO_LONG


def is_count(value):
    """Whether the value is an integer of at most sixty digits that is not below 0."""
    return is_integer(value) and value >= 0


def is_name(value):
    """Whether the value is a name [0.8]."""
    if not isinstance(value, str) or not 1 <= len(value) <= MAX_LETTERS:
        return False
    # Not `islower`, which takes letters beyond `z`, too.
    return all([letter in _LETTERS for letter in value])


def are_names(value):
    """Whether the value is a tuple of names; they can come twice."""
    return isinstance(value, tuple) and all([is_name(name) for name in value])


def is_naming(names, value):
    """Whether the value is a dict from just these names to names that differ from one another."""
    if not are_names(names):
        raise InvalidOperation("there is no tuple of names to be named")
    if not isinstance(value, dict) or len(value) != len(set(names)):
        return False
    if not all([name in value for name in names]):
        return False
    new_names = tuple(value.values())
    return are_names(new_names) and len(set(new_names)) == len(new_names)


def nth_name(index):
    """The name with this index in the order a, .., z, aa, ab, .., zz."""
    if not is_count(index) or index >= _NAMES:
        raise InvalidNumber(index)
    many = len(_LETTERS)
    if index < many:
        return _LETTERS[index]
    return _LETTERS[index // many - 1] + _LETTERS[index % many]


def new_name(names):
    """The first name, in the order of `nth_name`, that is none of the names, of which there are fewer than 702."""
    index = 0
    while nth_name(index) in names:
        index += 1
    return nth_name(index)


def new_names(names, many):
    """So many new names, given one after the other."""
    given = []
    for _ in range(many):
        given.append(new_name([*names, *given]))
    return tuple(given)


def is_fraction(value):
    """Whether the value is a fraction [1.3], with integers of any length."""
    if not isinstance(value, tuple) or len(value) != 2:
        return False
    top, bottom = value
    return is_whole(top) and is_whole(bottom) and bottom >= 1 and gcd(top, bottom) == 1


def in_lowest_terms(top, bottom):
    """The fraction with the value of `top` divided by `bottom`, which is not 0."""
    divisor = gcd(top, bottom)
    if bottom < 0:
        divisor = -divisor
    return top // divisor, bottom // divisor


def fraction(top, bottom):
    """The fraction with the value of `top` divided by `bottom`."""
    if not is_integer(top):
        raise InvalidNumber(top)
    if not is_integer(bottom) or bottom == 0:
        raise InvalidNumber(bottom)
    return in_lowest_terms(top, bottom)


def _check_fractions(one, other):
    """Raises the error for the first one that is no fraction."""
    if not is_fraction(one):
        raise InvalidNumber(one)
    if not is_fraction(other):
        raise InvalidNumber(other)


def added(one, other):
    """The sum of two fractions."""
    _check_fractions(one, other)
    return in_lowest_terms(one[0] * other[1] + other[0] * one[1], one[1] * other[1])


def multiplied(one, other):
    """The product of two fractions."""
    _check_fractions(one, other)
    return in_lowest_terms(one[0] * other[0], one[1] * other[1])


def divided(one, other):
    """The first fraction divided by the second one."""
    _check_fractions(one, other)
    if other[0] == 0:
        raise InvalidOperation("a fraction cannot be divided by 0")
    return in_lowest_terms(one[0] * other[1], one[1] * other[0])
