"""How many pairings a disc has, and sums over them, without making them."""

from rimtrails.base.webs import other_end
from rimtrails.pair.turns import used_places


def number_of_pairings(disc):
    """The number of pairings."""
    return _sum_over(disc, {tie: 1 for tie in disc.ties})


def sum_with_set(disc, chosen, numbers):
    """The products of the numbers of their ties, added up over all pairings whose set is the chosen one."""
    used = used_places(disc, chosen)
    held = [disc.inner_end(index) for index in used]
    if len(set(held)) < len(held):
        return 0
    rims = [disc.rim[index - 1] for index in used]
    inner = [tie for tie in disc.ties
             if tie not in disc.rim and not any([place in held for place in disc.ends_of(tie)])]
    return _sum_over(disc, {tie: numbers[tie] for tie in rims + inner})


def _sum_over(disc, weights):
    """The products of the weights of their ties, added up over all pairings that have no ties but these.

    The inner places are gone through in an order in which few of those to come have neighbours among those
    that were gone through, so there are few ways in which pairings of the latter can have used the former.
    """
    sums = {(): 1}
    gone = {}
    for place in _order_of_places(disc):
        gone[place] = True
        ways = [(other_end(disc.ends_of(tie), place), weights[tie]) for tie in disc.round_of(place) if tie in weights]
        sums = _sums_behind(sums, place, [(other, weight) for other, weight in ways if other not in gone])
    return sums.get((), 0)


def _sums_behind(sums, place, ways):
    """The sums over pairings of the places gone through, by the tuple of the used ones among those to come.

    `sums` are those without the place; `ways` are pairs of a rim place or a neighbour to come and the weight
    of a tie that goes there.
    """
    behind = {}
    for used, total in sums.items():
        if place in used:
            kept = tuple([other for other in used if other != place])
            behind[kept] = behind.get(kept, 0) + total
            continue
        for other, weight in ways:
            if other not in used:
                more = _with_end(used, other)
                behind[more] = behind.get(more, 0) + total * weight
    return behind


def _with_end(used, end):
    """The used places with one more, ascending; a rim place has one tie alone, so it need not be told."""
    return used if isinstance(end, int) else tuple(sorted([*used, end]))


def _order_of_places(disc):
    """The list of the inner places, each next one with as few new neighbours as there can be."""
    near = {}
    for place in disc.places:
        ends = [other_end(disc.ends_of(tie), place) for tie in disc.round_of(place)]
        near[place] = [end for end in ends if not isinstance(end, int)]
    met = {}
    places = []
    left = list(disc.places)
    while len(left) > 0:
        sizes = [(len(set(near[place] + [place]) - set(met)), place) for place in left]
        place = min(sizes)[1]
        places.append(place)
        left.remove(place)
        for other in [place, *near[place]]:
            met[other] = True
    return places
