"""How many pairings a disc has, without making them."""

from rimtrails.base.webs import other_end


def number_of_pairings(disc):
    """The number of pairings.

    The inner places are gone through in an order in which few of those to come have neighbours among those
    that were gone through, so there are few ways in which pairings of the latter can have used the former.
    """
    numbers = {(): 1}
    gone = {}
    for place in _order_of_places(disc):
        gone[place] = True
        others = [other_end(disc.ends_of(tie), place) for tie in disc.round_of(place)]
        numbers = _numbers_behind(numbers, place, [other for other in others if other not in gone])
    return numbers.get((), 0)


def _numbers_behind(numbers, place, others):
    """The numbers of pairings of the places gone through, by the tuple of the used ones among those to come.

    `numbers` are those without the place; `others` are its rim places and its neighbours to come, once for
    each tie.
    """
    behind = {}
    for used, number in numbers.items():
        for choice in _choices(used, place, others):
            behind[choice] = behind.get(choice, 0) + number
    return behind


def _choices(used, place, others):
    """The list of the used places to come, for each tie that a pairing can have at the place."""
    if place in used:
        return [tuple([other for other in used if other != place])]
    return [_with_end(used, other) for other in others if other not in used]


def _with_end(used, end):
    """The used places with one more, ascending; a rim place has one tie alone, so it need not be told."""
    return used if isinstance(end, int) else tuple(sorted([*used, end]))


def _order_of_places(disc):
    """The list of the inner places, each next one with as few new neighbours as there can be."""
    near = {}
    for place in disc.places:
        ends = [other_end(disc.ends_of(tie), place) for tie in disc.round_of(place)]
        near[place] = [end for end in ends if not isinstance(end, int)]
    met = {}
    places = []
    left = list(disc.places)
    while len(left) > 0:
        sizes = [(len(set(near[place] + [place]) - set(met)), place) for place in left]
        place = min(sizes)[1]
        places.append(place)
        left.remove(place)
        for other in [place, *near[place]]:
            met[other] = True
    return places
