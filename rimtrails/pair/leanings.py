"""Leanings of ties, and the ways and rings along them that lead from pairing to pairing."""

from rimtrails.base.checks import check_disc
from rimtrails.base.sets import is_ascending
from rimtrails.base.webs import other_end
from rimtrails.base.words import are_names, is_integer, is_name
from rimtrails.errors import InvalidLeaning, InvalidOperation, InvalidPairing
from rimtrails.pair.pairings import is_pairing
from rimtrails.pair.turns import ends_by_name, leaning_with, ties_to_white, turned_over


def leaning_of(disc, pairing):
    """The leaning that belongs to the pairing."""
    _check_pairing(disc, pairing)
    return leaning_with(disc, pairing)


def pairing_by(disc, leaning):
    """The pairing that belongs to the leaning."""
    _check_leaning(disc, leaning)
    return ties_to_white(disc, leaning)


def is_leaning(disc, value):
    """Whether the value is a leaning of the disc."""
    check_disc(disc)
    if not isinstance(value, dict) or len(value) != len(disc):
        return False
    for tie in disc.ties:
        end = value.get(tie)
        # True would be found among the ends as 1.
        if not (is_integer(end) or is_name(end)) or end not in disc.ends_of(tie):
            return False
    # Both tell that each inner place has just one tie that leans against its colour.
    return is_pairing(disc, ties_to_white(disc, value))


def sources(disc, leaning):
    """The rim places whose ties lean away from them, ascending."""
    _check_leaning(disc, leaning)
    return tuple([at + 1 for at in range(disc.many) if leaning[disc.rim[at]] != at + 1])


def ways_between(disc, leaning, pairing):
    """The family along the leaning that belongs to the pairing."""
    _check_leaning(disc, leaning)
    _check_pairing(disc, pairing)
    own = ties_to_white(disc, leaning)
    apart = [tie for tie in disc.ties if (tie in own) != (tie in pairing)]
    leaving = {other_end(disc.ends_of(tie), leaning[tie]): tie for tie in apart}
    # Ways are followed from their beginnings; the other ties are those of rings, least ones first.
    begun = [leaving[end] for end in leaving if isinstance(end, int)]
    met = {}
    ways = []
    for first in begun + apart:
        if first not in met:
            ways.append(_followed(first, leaning, leaving))
            for tie in ways[-1]:
                met[tie] = True
    return tuple(sorted(ways))


def pairing_behind(disc, leaning, ways):
    """The pairing that belongs to a family along the leaning."""
    if not is_family(disc, leaning, ways):
        raise InvalidOperation("this is no family along the leaning")
    turned = [tie for way in ways for tie in way]
    return ties_to_white(disc, turned_over(ends_by_name(disc), leaning, turned))


def is_family(disc, leaning, value):
    """Whether the value is a family along the leaning."""
    _check_leaning(disc, leaning)
    if not isinstance(value, tuple) or not all([_is_way_or_ring(disc, leaning, way) for way in value]):
        return False
    met = [leaning[tie] for way in value for tie in way if not isinstance(leaning[tie], int)]
    return is_ascending(value) and len(set(met)) == len(met)


def _check_leaning(disc, leaning):
    """Raises the error for the first one that is no disc, or no leaning of it."""
    if not is_leaning(disc, leaning):
        raise InvalidLeaning("this is no leaning of the disc")


def _check_pairing(disc, pairing):
    """Raises the error for the first one that is no disc, or no pairing of it."""
    if not is_pairing(disc, pairing):
        raise InvalidPairing("this is no pairing of the disc")


def _followed(first, leaning, leaving):
    """The way or the ring from its first tie on; `leaving` are the ties by the ends from which they lean away."""
    way = [first]
    while leaving.get(leaning[way[-1]], first) != first:
        way.append(leaving[leaning[way[-1]]])
    return tuple(way)


def _is_way_or_ring(disc, leaning, value):
    """Whether the value is a way or a ring along the leaning, but for places that it meets twice."""
    if not are_names(value) or len(value) < 2 or not all([tie in disc for tie in value]):
        return False
    heads = [leaning[tie] for tie in value]
    tails = [other_end(disc.ends_of(tie), leaning[tie]) for tie in value]
    if heads[:-1] != tails[1:]:
        return False
    if isinstance(tails[0], int):
        return isinstance(heads[-1], int)
    return tails[0] == heads[-1] and value[0] == min(value)
