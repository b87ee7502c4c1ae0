"""Orders below others, and ties that lead from a disc to an order below its own."""

from rimtrails.base.checks import check_disc
from rimtrails.errors import InvalidOperation, TooMany
from rimtrails.order.necklaces import is_below_from, necklace_of, order_of, sets_of
from rimtrails.order.orders import Order, check_order, each_knot
from rimtrails.pair.needs import ties_to_spare
from rimtrails.thin.faults import can_be_left_out, left_out

_MAX_BETWEEN = 1000


def is_below(one, other):
    """Whether the one order is below the other one [16.1]."""
    check_order(one)
    check_order(other)
    if one.many != other.many or one.level != other.level:
        return False
    sets = list(zip(necklace_of(one), necklace_of(other)))
    return not any([is_below_from(at + 1, one.many, own, wanted) for at, (own, wanted) in enumerate(sets)])


def set_against(one, other):
    """A set that is let by the one order and not by the other one, or None."""
    check_order(one)
    check_order(other)
    if one.many != other.many:
        raise InvalidOperation("the orders have not equally many rim places")
    let = sets_of(other)
    against = [chosen for chosen in sets_of(one) if chosen not in let]
    return against[0] if len(against) > 0 else None


def covers_below(order):
    """The orders that are directly below the order [16.2], ascending by their numbers."""
    check_order(order)
    many = order.many
    pairs = [(i, j) for i in range(1, many + 1) for j in range(i + 1, i + many)
             if j <= order(i) < order(j) <= i + many]
    return _exchanged_orders(order, pairs)


def covers_above(order):
    """The orders that the order is directly below, ascending by their numbers."""
    # A knot whose numbers are exchanged is such a pair of the order above.
    return _exchanged_orders(order, list(each_knot(order)))


def way_down(one, other):
    """Orders from the one to the other, each directly below the one ahead of it, or None."""
    if not is_below(other, one):
        return None
    way = [one]
    while way[-1] != other:
        lower = [order for order in covers_below(way[-1]) if is_below(other, order)]
        way.append(lower[0])
    return tuple(way)


def orders_between(one, other):
    """The orders that are below the other one and that the one is below, ascending by their numbers."""
    if not is_below(one, other):
        return ()
    met = {other.numbers: True}
    between = [other]
    at = 0
    while at < len(between):
        higher = between[at]
        at += 1
        for order in covers_below(higher):
            if order.numbers not in met:
                met[order.numbers] = True
                if is_below(one, order):
                    between.append(order)
        if len(between) > _MAX_BETWEEN:
            raise TooMany(_MAX_BETWEEN)
    return tuple(sorted(between, key=_numbers_of))


def ties_for(disc, order):
    """Ties of the disc without which it has the order, ascending, or None."""
    check_disc(disc)
    if not is_below(order, order_of(disc)):
        return None
    return ties_to_spare(disc, sets_of(order))


def is_ties_for(disc, order, value):
    """Whether the value are ties of the disc without which it has the order, ascending."""
    check_disc(disc)
    check_order(order)
    return can_be_left_out(disc, value) and order_of(left_out(disc, value)) == order


def _numbers_of(order):
    """What orders are sorted by."""
    return order.numbers


def _exchanged_orders(order, pairs):
    """The orders with the numbers of these pairs exchanged, ascending, but where one comes between them."""
    found = []
    for i, j in pairs:
        least, most = min(order(i), order(j)), max(order(i), order(j))
        if not any([least < order(k) < most for k in range(i + 1, j)]):
            numbers = list(order.numbers)
            numbers[i - 1] = order(j)
            numbers[(j - 1) % order.many] += order(i) - order(j)
            found.append(tuple(numbers))
    return tuple([Order(numbers) for numbers in sorted(found)])
