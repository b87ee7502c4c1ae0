"""Sets that cross, and collections that exchanges lead to.

Where many collections are gone through, a set is told by bits: by the integer that has the bit of each of its
rim places. A collection is then the ascending tuple of these integers.
"""


def are_crossing(one, other):
    """Whether two sets of rim places cross [12.3]."""
    apart = sorted(set(one) ^ set(other))
    sides = [place in one for place in apart]
    turns = [at for at in range(1, len(sides)) if sides[at] != sides[at - 1]]
    # Places a < b < c < d that stand on both sides by turns are those with three changes of side.
    return len(turns) >= 3


def places_of(bits):
    """The set that is told by these bits."""
    return tuple([place for place in range(bits.bit_length()) if bits & (1 << place)])


def by_bits(sets):
    """The collection of these sets, told by bits."""
    return tuple(sorted([sum([1 << place for place in places]) for places in sets]))


def by_places(collection):
    """The ascending tuple of the sets of a collection that is told by bits."""
    return tuple(sorted([places_of(bits) for bits in collection]))


def exchanges_by_bits(collection):
    """The list of the pairs of a set that can be exchanged [12.5] and the one for it."""
    pairs = []
    for own in collection:
        ways = _ways_in(own, collection)
        for first in ways:
            for last in ways:
                if first < last:
                    changes = _crossing_pairs(first, last, ways[first] & ways[last])
                    pairs.extend([(own, own ^ first ^ last ^ change) for change in changes])
    return pairs


def with_exchange(collection, own, other):
    """The collection with the one set exchanged for the other one."""
    return tuple(sorted([other, *[bits for bits in collection if bits != own]]))


def reached_by_exchanges(start, most):
    """The dict from each collection to which exchanges lead to the one before it in a shortest row from the start.

    The start itself has None. If there are more collections than `most`, None is returned.
    """
    before = {start: None}
    waiting = [start]
    at = 0
    while at < len(waiting):
        collection = waiting[at]
        at += 1
        for own, other in exchanges_by_bits(collection):
            reached = with_exchange(collection, own, other)
            if reached not in before:
                before[reached] = collection
                waiting.append(reached)
        if len(before) > most:
            return None
    return before


def _is_one_bit(bits):
    """Whether the integer has just one bit."""
    return bits != 0 and bits & (bits - 1) == 0


def _ways_in(own, collection):
    """The dict from places of the set to those that can stand there so that it is another set of the collection."""
    ways = {}
    for other in collection:
        common = own & other
        gone = own ^ common
        if _is_one_bit(gone):
            ways[gone] = ways.get(gone, 0) | (other ^ common)
    return ways


def _crossing_pairs(first, last, others):
    """The list of the pairs of the other places, as bits, one of which stands between the first and the last one."""
    bits = [1 << at for at in range(others.bit_length()) if others & (1 << at)]
    between = [bit for bit in bits if first < bit < last]
    return [bit | other for bit in between for other in bits if other not in between]
