"""Numbers of a thin disc that tell the point of a matrix."""

from math import gcd, lcm

from rimtrails.base.words import in_lowest_terms, multiplied
from rimtrails.label.labels import labels_of
from rimtrails.order.necklaces import order_of, sets_of
from rimtrails.point.minors import determinant


def numbers_by_matrix(disc, matrix):
    """Numbers of the thin disc that tell the point of the matrix, which is told and has the order of the disc.

    From the columns of the matrix others are made, the twisted ones. The value of a region is 1 over their
    minor at its label. The number of an inner tie is the product of the values of both regions beside it; that
    of a tie of the rim is the value of the region behind it along the rim, if its inner end is black, and of
    the one ahead of it, if it is white. (This is the left twist in "The twist for positroid varieties" by
    G. Muller and D. Speyer.) Then the numbers are rescaled to integers that are not long.
    """
    beside = _values_beside(disc, matrix)
    shares = {}
    for place in disc.places:
        shares[place] = _share([beside[(tie, place)] for tie in disc.round_of(place)])
    numbers = {}
    for tie in disc.ties:
        first, last = disc.ends_of(tie)
        if isinstance(first, int):
            index = first if disc.colour(last) == "white" else first % disc.many + 1
            numbers[tie] = in_lowest_terms(beside[(disc.rim[index - 1], index)], shares[last])
        else:
            numbers[tie] = in_lowest_terms(beside[(tie, first)] * beside[(tie, last)], shares[first] * shares[last])
    for place in [*disc.white, *disc.black]:
        _rescale_to_integers(numbers, disc.round_of(place))
    return {tie: numbers[tie][0] for tie in numbers}


def _values_beside(disc, matrix):
    """The dict from the steps to the values of the regions on their left, all times one factor: integers."""
    twisted = _twisted(matrix, sets_of(order_of(disc)))
    minors = {region: _twisted_minor(twisted, label) for region, label in labels_of(disc).items()}
    factor = 1
    for top, _ in minors.values():
        factor = lcm(factor, top)
    return {step: factor * minors[region][1] // minors[region][0] for region in minors for step in region}


def _twisted(matrix, sets):
    """The list of the twisted columns, each one as a pair: the column times a number, and this number.

    The product of a twisted column and the old one at the same rim place is 1, that of it and each other old
    one in the latest let set that ends there is 0.
    """
    many = len(matrix)
    twisted = []
    for index in range(1, many + 1):
        places = _latest_set(sets, many, index)
        if index in places:
            others = [matrix[place - 1] for place in places if place != index]
            column = [determinant([_with_one_at(at, len(places)), *others]) for at in range(len(places))]
            twisted.append((column, determinant([matrix[index - 1], *others])))
        else:
            # No let set has the rim place, so no label has it.
            twisted.append(([], 1))
    return twisted


def _latest_set(sets, many, index):
    """That one of the sets that has the latest places in the order of the rim places that ends with the index."""
    return min(sets, key=lambda places: sorted([(index - place) % many for place in places]))


def _with_one_at(seat, many):
    """The column of so many integers, 1 at the seat and 0 otherwise."""
    return [1 if at == seat else 0 for at in range(many)]


def _twisted_minor(twisted, label):
    """The minor of the twisted columns at the rim places of the label, as a fraction."""
    bottom = 1
    for place in label:
        bottom = bottom * twisted[place - 1][1]
    return in_lowest_terms(determinant([twisted[place - 1][0] for place in label]), bottom)


def _share(values):
    """The greatest integer of which each prime power divides all values around a place but one at most.

    A number of a tie somewhere is a factor of the values of some regions. It goes from the numbers near a
    place, in which it does not belong, if the place is rescaled by this share: on the border of those regions
    all regions around a place but one have the factor, or one alone.
    """
    share = 0
    for at, value in enumerate(values):
        for other in values[:at]:
            share = gcd(share, lcm(value, other) if len(values) > 2 else gcd(value, other))
    return share if len(values) > 1 else values[0]


def _rescale_to_integers(numbers, ties):
    """Multiplies the numbers of the ties, fractions above 0, by one factor, to integers without a common divisor."""
    top = 1
    bottom = 0
    for tie in ties:
        top = lcm(top, numbers[tie][1])
        bottom = gcd(bottom, numbers[tie][0])
    factor = in_lowest_terms(top, bottom)
    for tie in ties:
        numbers[tie] = multiplied(numbers[tie], factor)
