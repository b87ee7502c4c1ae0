"""Matrices, whose minors make points, and numbers back from the points."""

from rimtrails.base.checks import check_disc, check_number
from rimtrails.base.discs import MAX_RIM
from rimtrails.base.sets import sets_of_size
from rimtrails.base.words import in_lowest_terms, is_integer
from rimtrails.build.bridges import order_by
from rimtrails.errors import InvalidMatrix, InvalidNumber, InvalidOperation, InvalidPoint
from rimtrails.order.necklaces import necklace_of, order_of
from rimtrails.order.orders import Order
from rimtrails.point.minors import determinant, rank_of
from rimtrails.point.points import is_point
from rimtrails.point.twists import numbers_by_matrix
from rimtrails.point.weights import without_divisor
from rimtrails.thin.faults import check_thin


def is_matrix(value):
    """Whether the value is a matrix [15.1], with integers of at most sixty digits."""
    if not isinstance(value, tuple) or not 1 <= len(value) <= MAX_RIM:
        return False
    if not all([isinstance(column, tuple) and len(column) <= len(value) for column in value]):
        return False
    if not all([is_integer(number) for column in value for number in column]):
        return False
    level = len(value[0])
    return all([len(column) == level for column in value]) and rank_of(value) == level


def minors(matrix):
    """The dict from all sets of as many rim places as the level to their minors."""
    _check_matrix(matrix)
    sets = sets_of_size(len(matrix), len(matrix[0]))
    return {chosen: determinant([matrix[place - 1] for place in chosen]) for chosen in sets}


def is_told(matrix):
    """Whether no minor is below 0."""
    return negative_set(matrix) is None


def negative_set(matrix):
    """A set whose minor is below 0, or None."""
    below = [chosen for chosen, minor in minors(matrix).items() if minor < 0]
    return below[0] if len(below) > 0 else None


def order_of_matrix(matrix):
    """The order of the matrix [15.3]."""
    _check_matrix(matrix)
    numbers = []
    for index in range(1, len(matrix) + 1):
        last = index
        while _rank(matrix, index, last) != _rank(matrix, index + 1, last):
            last += 1
        numbers.append(last)
    return Order(tuple(numbers))


def rank_between(matrix, first, last):
    """The rank of the columns from the first to the last one, which can be beyond the greatest rim place."""
    _check_matrix(matrix)
    check_number(first, 1, len(matrix))
    check_number(last, first - 1, first + len(matrix) - 1)
    return _rank(matrix, first, last)


def with_zeros(matrix, index):
    """The matrix with a black rim place put in: a column of zeros."""
    _check_new_column(matrix, index)
    zeros = tuple([0 for _ in matrix[0]])
    return (*matrix[:index - 1], zeros, *matrix[index - 1:])


def with_new_row(matrix, index):
    """The matrix with a white rim place put in: a column with 1 in a new last row."""
    _check_new_column(matrix, index)
    before = [(*column, 0) for column in matrix[:index - 1]]
    behind = [(*_opposite(column), 0) for column in matrix[index - 1:]]
    return (*before, (*[0 for _ in matrix[0]], 1), *behind)


def with_bridge(matrix, index, number):
    """The matrix with the column at the rim place, times the number, added to the next one."""
    _check_matrix(matrix)
    check_number(index, 1, len(matrix) - 1)
    if not is_integer(number):
        raise InvalidNumber(number)
    added = tuple([own + number * before for own, before in zip(matrix[index], matrix[index - 1])])
    return (*matrix[:index], added, *matrix[index + 1:])


def turned_matrix(matrix):
    """The matrix with its last column ahead of the others, with other signs if the level is even."""
    _check_matrix(matrix)
    last = matrix[-1]
    return (_opposite(last) if len(last) % 2 == 0 else last, *matrix[:-1])


def point_of_matrix(matrix):
    """The point of the told matrix."""
    told = minors(matrix)
    if not is_told(matrix):
        raise InvalidOperation("the matrix has a minor below 0")
    return without_divisor({chosen: told[chosen] for chosen in told if told[chosen] != 0})


def matrix_of_point(order, point):
    """A told matrix, with integers of at most sixty digits, whose point this is."""
    _check_point(order, point)
    base = necklace_of(order)[0]
    # There is a row for each place of the base. Its columns there have the number of the base once, else 0, so
    # each minor with one place exchanged is an integer of the matrix, times a power of this number.
    return tuple([tuple([_minor_with(point, base, own, place) for own in base]) for place in range(1, order.many + 1)])


def numbers_of(steps, point):
    """The fractions of the bridges of the steps by which the minors are those of the point, times a number."""
    _check_point(order_by(steps), point)
    told = point
    fractions = []
    for at in range(len(steps) - 1, -1, -1):
        word, index = steps[at]
        if word == "bridge":
            necklace = necklace_of(order_by(steps[:at + 1]))
            number = _number_of_bridge(told, necklace[index], index)
            fractions.append(number)
            told = _without_bridge(told, index, number)
        else:
            told = _without_place(told, index)
    return tuple(fractions[::-1])


def numbers_back(disc, point):
    """Numbers of the thin disc that tell this point."""
    check_disc(disc)
    matrix = matrix_of_point(order_of(disc), point)
    check_thin(disc)
    return numbers_by_matrix(disc, matrix)


def _check_matrix(matrix):
    """Raises the error for what is no matrix."""
    if not is_matrix(matrix):
        raise InvalidMatrix("this is no matrix")


def _check_new_column(matrix, index):
    """Raises the error for the first one that is no matrix, or no rim place for a further column of it."""
    _check_matrix(matrix)
    check_number(index, 1, len(matrix) + 1)
    if len(matrix) == MAX_RIM:
        raise InvalidOperation("there are eight columns already")


def _check_point(order, point):
    """Raises the error for the first one that is no order, or no point of it with integers of at most sixty digits."""
    if not is_point(order, point) or not all([is_integer(number) for number in point.values()]):
        raise InvalidPoint("this is no point of the order")


def _rank(matrix, first, last):
    """The rank of the columns from the first to the last one."""
    return rank_of([matrix[(at - 1) % len(matrix)] for at in range(first, last + 1)])


def _opposite(column):
    """The column with all its signs changed."""
    return tuple([-number for number in column])


def _minor_with(point, base, own, place):
    """The integer in the row of a place of the base, in the column of the other place.

    It is the number of the base with the other place for its own, below 0 if these two have an odd number of
    places of the base between them.
    """
    if place in base and place != own:
        return 0
    chosen = _with_other(base, own, place)
    between = [other for other in base if min(own, place) < other < max(own, place)]
    number = point.get(chosen, 0)
    return number if len(between) % 2 == 0 else -number


def _with_other(chosen, own, other):
    """The set with the other rim place for its own one."""
    return tuple(sorted([other, *[place for place in chosen if place != own]]))


def _number_of_bridge(told, chosen, index):
    """The fraction of the bridge at the rim place, which is the last step; the set is that of the next one."""
    return in_lowest_terms(told[chosen], told[_with_other(chosen, index + 1, index)])


def _without_bridge(told, index, number):
    """The numbers of the let sets, times some number, before the last step, the bridge with this fraction."""
    top, bottom = number
    before = {}
    for chosen in told:
        before[chosen] = told[chosen] * bottom
        if index + 1 in chosen and index not in chosen:
            before[chosen] -= top * told.get(_with_other(chosen, index + 1, index), 0)
    return without_divisor({chosen: before[chosen] for chosen in before if before[chosen] != 0})


def _without_place(told, index):
    """The numbers of the let sets before the last step, which has put in the rim place."""
    before = {}
    for chosen in told:
        others = [place for place in chosen if place != index]
        before[tuple([place - 1 if place > index else place for place in others])] = told[chosen]
    return before
