"""Labels of the regions of thin discs, and collections of let sets that do not cross."""

from rimtrails.base.checks import check_disc, check_many, check_number
from rimtrails.base.discs import MAX_RIM
from rimtrails.base.sets import is_ascending, is_rim_set
from rimtrails.base.trails import regions_of, trail
from rimtrails.base.words import is_integer, is_name
from rimtrails.errors import InvalidCollection, InvalidOperation, InvalidSet, TooMany
from rimtrails.label.exchanging import are_crossing, by_bits, by_places, exchanges_by_bits, places_of
from rimtrails.label.exchanging import reached_by_exchanges
from rimtrails.label.tilings import disc_with_labels
from rimtrails.order.necklaces import necklace_of, sets_of
from rimtrails.order.orders import check_order
from rimtrails.thin.faults import check_thin

MAX_COLLECTIONS = 1000


def is_left_of(disc, index, value):
    """Whether the value is a region of the thin disc on the left of the trail from the rim place."""
    check_disc(disc)
    check_number(index, 1, disc.many)
    check_thin(disc)
    regions = regions_of(disc)
    return _are_steps(value) and value in regions and _lie_on_left(disc, index, regions)[regions.index(value)]


def labels_of(disc):
    """The dict from the regions of the thin disc to their labels."""
    check_thin(disc)
    regions = regions_of(disc)
    labels = {region: () for region in regions}
    for index in range(1, disc.many + 1):
        end = trail(disc, index)[-1][1]
        for region, is_left in zip(regions, _lie_on_left(disc, index, regions)):
            if is_left:
                labels[region] = tuple(sorted([*labels[region], end]))
    return labels


def do_cross(many, one, other):
    """Whether two sets of rim places cross, among so many."""
    check_many(many)
    for places in (one, other):
        if not is_rim_set(many, places):
            raise InvalidSet("this is no set of rim places")
    if len(one) != len(other):
        raise InvalidOperation("the sets have not equally many places")
    return are_crossing(one, other)


def crossing_in(sets):
    """The least pair of two of the sets that cross, or None."""
    if not isinstance(sets, tuple) or not all([is_rim_set(MAX_RIM, places) for places in sets]):
        raise InvalidCollection("this is no tuple of sets of rim places")
    if not is_ascending(sets) or not all([len(places) == len(sets[0]) for places in sets]):
        raise InvalidCollection("these sets are not ascending, or have not equally many places")
    for at, one in enumerate(sets):
        for other in sets[at + 1:]:
            if are_crossing(one, other):
                return one, other
    return None


def collection_of(disc):
    """The labels of the thin disc, ascending."""
    return tuple(sorted(list(labels_of(disc).values())))


def is_collection(order, value):
    """Whether the value is a collection [12.4] of the order."""
    check_order(order)
    if not isinstance(value, tuple) or not all([is_rim_set(order.many, places) for places in value]):
        return False
    let = sets_of(order)
    if not is_ascending(value) or not all([places in let for places in value]):
        return False
    if not all([places in value for places in necklace_of(order)]) or crossing_in(value) is not None:
        return False
    return all([places in value or _does_cross_one(places, value) for places in let])


def exchanges(order, collection):
    """The pairs of a set that can be exchanged [12.5] and the one for it, ascending."""
    _check_collection(order, collection)
    pairs = exchanges_by_bits(by_bits(collection))
    return tuple(sorted([(places_of(own), places_of(other)) for own, other in pairs]))


def exchanged(order, collection, places):
    """The collection in which this set is exchanged."""
    for own, other in exchanges(order, collection):
        if is_rim_set(order.many, places) and places == own:
            return tuple(sorted([other, *[kept for kept in collection if kept != own]]))
    raise InvalidOperation("this is no set of the collection that can be exchanged")


def each_collection(order):
    """Yields all collections of the order, ascending."""
    check_order(order)
    found = reached_by_exchanges(by_bits(_first_collection(order)), MAX_COLLECTIONS)
    if found is None:
        raise TooMany(MAX_COLLECTIONS)
    for collection in sorted([by_places(bits) for bits in found]):
        yield collection


def disc_of_collection(order, collection):
    """The short thin disc with this order whose labels are the collection, as `named_anew`."""
    _check_collection(order, collection)
    if reached_by_exchanges(by_bits(collection), MAX_COLLECTIONS) is None:
        raise TooMany(MAX_COLLECTIONS)
    return disc_with_labels(order, collection)


def _check_collection(order, collection):
    """Raises the error for the first one that is no order, or no collection of it."""
    if not is_collection(order, collection):
        raise InvalidCollection("this is no collection of the order")


def _does_cross_one(places, sets):
    """Whether the set crosses one of the sets."""
    return any([are_crossing(places, other) for other in sets])


def _first_collection(order):
    """Some collection of the order."""
    sets = list(necklace_of(order))
    for places in sets_of(order):
        # All collections have equally many sets, so what fits can be taken at once.
        if places not in sets and not _does_cross_one(places, sets):
            sets.append(places)
    return tuple(sorted(set(sets)))


def _are_steps(value):
    """Whether the value is a tuple of pairs of a name and a name or an integer."""
    if not isinstance(value, tuple) or not all([isinstance(step, tuple) and len(step) == 2 for step in value]):
        return False
    return all([is_name(tie) and (is_name(end) or is_integer(end)) for tie, end in value])


def _lie_on_left(disc, index, regions):
    """The list that tells for each region of the thin disc whether it lies on the left of the trail."""
    steps = trail(disc, index)
    if steps[-1][1] == index:
        return [disc.colour(disc.inner_end(index)) == "white" for _ in regions]
    beside = {step: at for at, region in enumerate(regions) for step in region}
    walked = [tie for tie, _ in steps]
    lies = {beside[steps[0]]: True}
    while len(lies) < len(regions):
        for tie in disc.ties:
            first, last = [beside[(tie, end)] for end in disc.ends_of(tie)]
            for known, other in ((first, last), (last, first)):
                if known in lies and other not in lies:
                    lies[other] = lies[known] != (tie in walked)
    return [lies[at] for at in range(len(regions))]
