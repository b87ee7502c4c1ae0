"""Parts of orders, discs with other colours or turned, and two pairings laid on one another."""

from rimtrails.base.checks import check_disc, check_many, check_number
from rimtrails.base.discs import Disc
from rimtrails.base.sets import is_ascending, is_rim_set
from rimtrails.base.webs import from_least, other_end
from rimtrails.base.words import is_integer, is_name
from rimtrails.errors import InvalidOperation, InvalidPairing, InvalidSet
from rimtrails.label.exchanging import are_crossing
from rimtrails.order.orders import Order, check_order
from rimtrails.pair.counts import sum_with_set
from rimtrails.pair.pairings import is_pairing


def parts_of(order):
    """The finest parting of the order."""
    check_order(order)
    parts = [(index,) for index in range(1, order.many + 1)]
    for index in range(1, order.many + 1):
        parts = _joined(parts, (index, order.ends[index - 1]))
    # Parts that cross lie in one part of each parting, and joining two can make others cross.
    crossing = _crossing_parts(parts)
    while crossing is not None:
        parts = _joined(parts, crossing)
        crossing = _crossing_parts(parts)
    return tuple(sorted(parts))


def is_parting(order, value):
    """Whether the value is a parting [17.1] of the order."""
    check_order(order)
    if not _are_parts(order.many, value):
        return False
    return all([order.ends[place - 1] in part for part in value for place in part])


def part_order(order, places):
    """The order of a part of the order [17.2]."""
    check_order(order)
    if not is_rim_set(order.many, places) or len(places) == 0:
        raise InvalidSet("this is no ascending tuple of rim places")
    others = [part for part in parts_of(order) if not all([place in places for place in part])]
    if any([place in places for part in others for place in part]) or _crossing_parts([places, *others]) is not None:
        raise InvalidOperation("these places are no part of the order")
    seats = [places.index(order.ends[place - 1]) + 1 for place in places]
    falls = [order[place] > order.many for place in places]
    return Order(tuple([seat + len(places) if does_fall else seat for seat, does_fall in zip(seats, falls)]))


def joined_orders(many, parts):
    """The order of so many rim places with these parts, pairs of places and an order."""
    check_many(many)
    if not isinstance(parts, tuple) or not all([_is_place_order(pair) for pair in parts]):
        raise InvalidOperation("this is no tuple of pairs of places and an order")
    if not _are_parts(many, tuple([places for places, _ in parts])):
        raise InvalidOperation("these places are no parts of so many rim places")
    numbers = {}
    for places, order in parts:
        for at, place in enumerate(places):
            end = places[order.ends[at] - 1]
            numbers[place] = end + many if at + 1 in order.falling else end
    return Order(tuple([numbers[index] for index in range(1, many + 1)]))


def dual_disc(disc):
    """The disc with both colours exchanged."""
    check_disc(disc)
    return Disc(disc.rim, disc.white, disc.black)


def mirrored_disc(disc):
    """The disc with its rim places in the opposite order, and with all rounds turned backward."""
    check_disc(disc)
    return Disc(disc.rim[::-1], _mirrored(disc.black), _mirrored(disc.white))


def turned_disc(disc, by):
    """The disc with the tie of each rim place so many rim places on."""
    check_disc(disc)
    check_number(by, 0, disc.many - 1)
    kept = disc.many - by
    return Disc(disc.rim[kept:] + disc.rim[:kept], disc.black, disc.white)


def laid(disc, one, other):
    """The double ties, the rings and the ways of two pairings that are laid on one another [17.4]."""
    _check_pairings(disc, one, other)
    near = _apart_ties(disc, one, other)
    apart = [tie for tie in disc.ties if (tie in one) != (tie in other)]
    ways = []
    rings = []
    met = {}
    # Ways are followed from the lesser of their rim places, rings from their least ties.
    for first in [tie for tie in disc.rim if tie in apart] + apart:
        if first not in met:
            ties, end = _followed(disc, near, first)
            if first in disc.rim:
                ways.append((disc.rim.index(first) + 1, ties, end))
            else:
                rings.append(ties)
            for tie in ties:
                met[tie] = True
    return tuple([tie for tie in one if tie in other]), tuple(sorted(rings)), tuple(sorted(ways))


def switched(disc, one, other, what):
    """The two pairings in which the ties of a way or of a ring are exchanged."""
    _, rings, ways = laid(disc, one, other)
    if is_integer(what):
        found = [ties for first, ties, last in ways if what in (first, last)]
    else:
        found = [ties for ties in [*rings, *[ties for _, ties, _ in ways]] if is_name(what) and what in ties]
    if len(found) == 0:
        raise InvalidOperation("no way ends here, and this is no tie of a way or a ring")
    return tuple(sorted(set(one) ^ set(found[0]))), tuple(sorted(set(other) ^ set(found[0])))


def three_terms(disc, base, four):
    """How many pairs of pairings have the three pairs of sets with these rim places [17.6]."""
    check_disc(disc)
    for places in (base, four):
        if not is_rim_set(disc.many, places):
            raise InvalidSet("this is no ascending tuple of rim places")
    if len(base) != disc.level - 2 or len(four) != 4 or any([place in base for place in four]):
        raise InvalidOperation("these are not two places less than the level and four other ones")
    a, b, c, d = four
    counts = {}
    for pair in ((a, b), (a, c), (a, d), (b, c), (b, d), (c, d)):
        counts[pair] = sum_with_set(disc, (*base, *pair), {tie: 1 for tie in disc.ties})
    return counts[(a, c)] * counts[(b, d)], counts[(a, b)] * counts[(c, d)], counts[(a, d)] * counts[(b, c)]


def _joined(parts, places):
    """The parts, with those joined in which these places are."""
    wanted = [part for part in parts if any([place in places for place in part])]
    joined = tuple(sorted([place for part in wanted for place in part]))
    return [joined, *[part for part in parts if part not in wanted]]


def _crossing_parts(parts):
    """All places of two parts that cross in their places, or None; no place is in two parts."""
    for at, one in enumerate(parts):
        for other in parts[at + 1:]:
            if are_crossing(one, other):
                return one + other
    return None


def _are_parts(many, value):
    """Whether the value is an ascending tuple of parts that do not cross, with each rim place in just one."""
    if not isinstance(value, tuple) or not all([is_rim_set(many, part) and len(part) > 0 for part in value]):
        return False
    if sorted([place for part in value for place in part]) != list(range(1, many + 1)):
        return False
    return is_ascending(value) and _crossing_parts(value) is None


def _is_place_order(value):
    """Whether the value is a pair of a tuple and an order of as many rim places."""
    if not isinstance(value, tuple) or len(value) != 2:
        return False
    places, order = value
    return isinstance(places, tuple) and isinstance(order, Order) and len(places) == order.many


def _mirrored(rounds):
    """The rounds turned backward."""
    return {place: from_least(rounds[place][::-1]) for place in rounds}


def _check_pairings(disc, one, other):
    """Raises the error for the first one that is no disc, or no pairing of it."""
    for pairing in (one, other):
        if not is_pairing(disc, pairing):
            raise InvalidPairing("this is no pairing of the disc")


def _apart_ties(disc, one, other):
    """The dict from the inner places to their ties that are in just one of both pairings: two, or none."""
    return {place: [tie for tie in disc.round_of(place) if (tie in one) != (tie in other)] for place in disc.places}


def _tie_behind(near, place, tie):
    """The other one of the two ties of the place."""
    return [other for other in near[place] if other != tie][0]


def _followed(disc, near, first):
    """The ties from the first one on, until a rim place or the first one again, and the last end."""
    ends = [end for end in disc.ends_of(first) if not isinstance(end, int)]
    place = min(ends, key=lambda end: _tie_behind(near, end, first))
    ties = [first]
    while not isinstance(place, int) and (len(ties) == 1 or ties[-1] != first):
        ties.append(_tie_behind(near, place, ties[-1]))
        place = other_end(disc.ends_of(ties[-1]), place)
    return (tuple(ties) if isinstance(place, int) else tuple(ties[:-1])), place
