"""Necklaces of orders, and the sets that orders let."""

from rimtrails.base.checks import check_disc, check_many
from rimtrails.base.discs import MAX_RIM
from rimtrails.base.sets import is_ascending, is_rim_set, sets_of_size
from rimtrails.errors import InvalidNecklace, InvalidSet
from rimtrails.order.orders import Order, check_order
from rimtrails.pair.pairings import let_sets


def necklace_of(order):
    """The necklace [7.3] of the order."""
    check_order(order)
    ends = order.ends
    places = [ends[index - 1] for index in order.falling]
    necklace = [tuple(sorted(places))]
    for index in range(1, order.many):
        if index in places:
            places = [place for place in places if place != index] + [ends[index - 1]]
        necklace.append(tuple(sorted(places)))
    return tuple(necklace)


def is_necklace(many, value):
    """Whether the value is a necklace [7.2] of so many rim places."""
    check_many(many)
    return _is_necklace(many, value)


def order_of_necklace(necklace):
    """The order whose necklace this is."""
    many = len(necklace) if isinstance(necklace, tuple) else 0
    if not 1 <= many <= MAX_RIM or not _is_necklace(many, necklace):
        raise InvalidNecklace("this is no necklace")
    return _order_of_necklace(necklace)


def sets_of(order):
    """The let sets of the order, ascending."""
    necklace = necklace_of(order)
    sets = sets_of_size(order.many, order.level)
    return tuple([places for places in sets if _barred_by(necklace, places) is None])


def is_set_of(order, value):
    """Whether the value is a let set of the order."""
    check_order(order)
    return _is_set_of_level(order, value) and _barred_by(necklace_of(order), value) is None


def barred_at(order, places):
    """The least rim place from which the set is below that of the necklace, or None if it is let."""
    check_order(order)
    if not _is_set_of_level(order, places):
        raise InvalidSet("this is no set with as many places as the level")
    return _barred_by(necklace_of(order), places)


def order_of_sets(many, sets):
    """The order of so many rim places whose let sets are just these, or None."""
    check_many(many)
    if not isinstance(sets, tuple) or not all([is_rim_set(many, places) for places in sets]) or not is_ascending(sets):
        raise InvalidSet("this is no ascending tuple of sets")
    return _order_of_sets(many, sets)


def order_of(disc):
    """The order of the disc: the one with the same let sets."""
    check_disc(disc)
    return _order_of_sets(disc.many, let_sets(disc))


def _seats(many, start, places):
    """The list of how far behind `start` the places stand in the turn from there, ascending."""
    return sorted([(place - start) % many for place in places])


def _least_from(many, start, sets):
    """That one of the sets that has the least places in the turn from the start."""
    return min(sets, key=lambda places: _seats(many, start, places))


def is_below_from(start, many, one, other):
    """Whether the one set is below the other one, which has as many places, from the start [7.1]."""
    return any([own < wanted for own, wanted in zip(_seats(many, start, one), _seats(many, start, other))])


def _barred_by(necklace, places):
    """The least start from which the set is below that of the necklace, or None."""
    many = len(necklace)
    starts = [at + 1 for at in range(many) if is_below_from(at + 1, many, places, necklace[at])]
    return starts[0] if len(starts) > 0 else None


def _is_set_of_level(order, value):
    """Whether the value is a set with as many places as the level of the order."""
    return is_rim_set(order.many, value) and len(value) == order.level


def _is_necklace(many, value):
    """Whether the value is a necklace of so many rim places."""
    if not isinstance(value, tuple) or len(value) != many or not all([is_rim_set(many, places) for places in value]):
        return False
    return all([_follows(index, value[index - 1], value[index % many]) for index in range(1, many + 1)])


def _follows(index, places, others):
    """Whether the other set can be the next one [7.2] in a necklace, behind that of this rim place."""
    kept = [place for place in places if place != index]
    return len(others) == len(places) and all([place in others for place in kept])


def _order_of_necklace(necklace):
    """The order whose necklace this is."""
    many = len(necklace)
    numbers = []
    for index in range(1, many + 1):
        places = necklace[index - 1]
        number = index
        if index in places:
            kept = [place for place in places if place != index]
            number = [place for place in necklace[index % many] if place not in kept][0]
            if number <= index:
                number = number + many
        numbers.append(number)
    return Order(tuple(numbers))


def _order_of_sets(many, sets):
    """The order whose let sets are just these, or None; the sets can have unlike lengths."""
    if len(sets) == 0:
        return None
    necklace = tuple([_least_from(many, at + 1, sets) for at in range(many)])
    if not _is_necklace(many, necklace):
        return None
    order = _order_of_necklace(necklace)
    return order if sets_of(order) == sets else None
