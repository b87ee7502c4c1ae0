"""Pairings of discs, the sets that they have, and what keeps a tuple of rim places from being such a set."""

from rimtrails.base.checks import check_disc
from rimtrails.base.discs import is_drawn
from rimtrails.base.matchings import lack_among, matched
from rimtrails.base.sets import is_ascending, is_rim_set, sets_of_size
from rimtrails.base.webs import ends_by_tie, other_end
from rimtrails.base.words import are_names
from rimtrails.errors import InvalidDisc, InvalidPairing, InvalidSet, TooMany
from rimtrails.pair.counts import number_of_pairings
from rimtrails.pair.turns import ends_by_name, leaning_with, ties_to_white, turned_over, turned_with, used_places

_MAX_PAIRINGS = 5000


def each_pairing(disc):
    """Yields all pairings, ascending."""
    check_disc(disc)
    ends = ends_by_name(disc)
    waiting = [(leaning_with(disc, _first_found(disc)), 0)]
    while len(waiting) > 0:
        leaning, at = waiting.pop()
        turned = []
        while at < len(disc.ties) and len(turned) == 0:
            turned = turned_with(disc.ties[at], disc.ties[at + 1:], ends, leaning)
            at += 1
        pairing = ties_to_white(disc, leaning)
        if len(turned) == 0:
            yield pairing
        else:
            other = turned_over(ends, leaning, turned)
            # The least tie that can be turned tells which pairings are less: those that use it.
            later, sooner = (other, leaning) if disc.ties[at - 1] in pairing else (leaning, other)
            waiting.append((later, at))
            waiting.append((sooner, at))


def count_pairings(disc):
    """The number of pairings, if it is not above 5000."""
    check_disc(disc)
    number = number_of_pairings(disc)
    if number > _MAX_PAIRINGS:
        raise TooMany(_MAX_PAIRINGS)
    return number


def is_pairing(disc, value):
    """Whether the value is a pairing of the disc."""
    check_disc(disc)
    if not are_names(value) or not is_ascending(value) or not all([tie in disc for tie in value]):
        return False
    ends = [end for tie in value for end in disc.ends_of(tie)]
    return sorted([end for end in ends if not isinstance(end, int)]) == list(disc.places)


def set_of_pairing(disc, pairing):
    """The set of a pairing."""
    if not is_pairing(disc, pairing):
        raise InvalidPairing("this is no pairing of the disc")
    white = disc.white
    places = [at + 1 for at in range(disc.many) if (disc.rim[at] in pairing) == (disc.inner_end(at + 1) in white)]
    return tuple(places)


def let_sets(disc):
    """The let sets, ascending."""
    check_disc(disc)
    return tuple([chosen for chosen in sets_of_size(disc.many, disc.level) if _pairing_with(disc, chosen) is not None])


def is_let(disc, value):
    """Whether the value is a let set."""
    check_disc(disc)
    return is_rim_set(disc.many, value) and _pairing_with(disc, value) is not None


def pairing_with(disc, chosen):
    """A pairing whose set this is, or None."""
    _check_chosen(disc, chosen)
    return _pairing_with(disc, chosen)


def bar_of(disc, chosen):
    """A bar of the tuple of rim places, or None."""
    _check_chosen(disc, chosen)
    for colour in ("black", "white"):
        lack = matched(_neighbours(disc, chosen, colour))[1]
        if len(lack) > 0:
            places = sorted([place for place in lack if not isinstance(place, int)])
            return tuple(places), tuple(sorted([place for place in lack if isinstance(place, int)]))
    return None


def is_bar(disc, chosen, value):
    """Whether the value is a bar of the tuple of rim places."""
    _check_chosen(disc, chosen)
    if not isinstance(value, tuple) or len(value) != 2:
        return False
    places, rims = value
    if not are_names(places) or not is_ascending(places) or not is_rim_set(disc.many, rims):
        return False
    for colour in ("black", "white"):
        neighbours = _neighbours(disc, chosen, colour)
        if all([place in neighbours for place in places + rims]):
            return _are_lacking(places + rims, neighbours)
    return False


def lack_in(rim, black, white):
    """A lack of what would be a disc but for its pairings, or None."""
    _check_drawn(rim, black, white)
    ends = ends_by_tie(rim, black, white)
    for rounds in (black, white):
        lack = lack_among(rounds, ends)
        if len(lack) > 0:
            return lack
    return None


def is_lack(rim, black, white, value):
    """Whether the value is a lack of what would be a disc but for its pairings."""
    _check_drawn(rim, black, white)
    if not are_names(value) or not is_ascending(value):
        return False
    ends = ends_by_tie(rim, black, white)
    for rounds in (black, white):
        if all([place in rounds for place in value]):
            neighbours = {place: [other_end(ends[tie], place) for tie in rounds[place]] for place in value}
            return _are_lacking(value, neighbours)
    return False


def _check_chosen(disc, chosen):
    """Raises the error for the first one that is no disc, or no tuple of rim places of it."""
    check_disc(disc)
    if not is_rim_set(disc.many, chosen):
        raise InvalidSet("this is no ascending tuple of rim places")


def _check_drawn(rim, black, white):
    """Raises the error for what breaks another rule of [2.1] than rule 5."""
    if not is_drawn(rim, black, white):
        raise InvalidDisc("this rim and these rounds are not drawn in a disc")


def _are_lacking(places, neighbours):
    """Whether the places are more than all their neighbours."""
    return len(places) > len(set([other for place in places for other in neighbours[place]]))


def _first_found(disc):
    """Some pairing of the disc."""
    for chosen in sets_of_size(disc.many, disc.level):
        pairing = _pairing_with(disc, chosen)
        if pairing is not None:
            return pairing
    return None


def _neighbours(disc, chosen, colour):
    """The dict from the places of the colour to their neighbours [4.2], inner places and rim places.

    A rim place whose tie is used counts, and has the colour that its inner end has not; the others do not.
    """
    rounds = disc.white if colour == "white" else disc.black
    used = used_places(disc, chosen)
    neighbours = {}
    for place in rounds:
        others = [other_end(disc.ends_of(tie), place) for tie in rounds[place]]
        neighbours[place] = [other for other in others if not isinstance(other, int) or other in used]
    for index in used:
        if disc.inner_end(index) not in rounds:
            neighbours[index] = [disc.inner_end(index)]
    return neighbours


def _pairing_with(disc, chosen):
    """A pairing whose set this is, or None."""
    holders, lack = matched(_neighbours(disc, chosen, "black"))
    if len(lack) > 0 or len(holders) < len(_neighbours(disc, chosen, "white")):
        return None
    return tuple(sorted([_common_tie(disc, place, other) for other, place in holders.items()]))


def _common_tie(disc, place, other):
    """The least tie that joins the places, one of which can be a rim place."""
    if isinstance(place, int):
        return disc.rim[place - 1]
    return min([tie for tie in disc.round_of(place) if other in disc.ends_of(tie)])
