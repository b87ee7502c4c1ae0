"""What is left of discs without some ties, and which discs are thin."""

from rimtrails.base.checks import check_disc, check_tie
from rimtrails.base.discs import Disc
from rimtrails.base.sets import is_ascending
from rimtrails.base.trails import round_trails, trail
from rimtrails.base.webs import from_least, other_colour, reached_from_rim
from rimtrails.base.words import are_names, is_integer, new_name
from rimtrails.errors import InvalidOperation
from rimtrails.pair.needs import do_pair_without, needed_among
from rimtrails.pair.pairings import is_let, let_sets
from rimtrails.pair.turns import ends_by_name


def left_out(disc, ties):
    """The disc that is left if these ties are left out."""
    check_disc(disc)
    if not can_be_left_out(disc, ties):
        raise InvalidOperation("this is no ascending tuple of ties that can be left out of the disc")
    kept = [tie for tie in disc.rim if tie not in ties]
    left = {place: tuple([tie for tie in disc.round_of(place) if tie not in ties]) for place in disc.places}
    rounds = {"black": {}, "white": {}}
    for place in reached_from_rim(kept, left, ends_by_name(disc)):
        rounds[disc.colour(place)][place] = from_least(left[place])
    names = list(disc.places)
    for index in range(1, disc.many + 1):
        tie = disc.rim[index - 1]
        if tie in ties:
            names.append(new_name(names))
            rounds[other_colour(disc.colour(disc.inner_end(index)))][names[-1]] = (tie,)
    return Disc(disc.rim, rounds["black"], rounds["white"])


def can_be_left_out(disc, value):
    """Whether the value is an ascending tuple of ties of the disc, and some pairing uses none of them."""
    if not are_names(value) or not is_ascending(value) or not all([tie in disc for tie in value]):
        return False
    return do_pair_without(disc, value)


def can_go(disc, tie):
    """Whether the tie can be left out so that the let sets stay as they are."""
    check_disc(disc)
    check_tie(disc, tie)
    return not any([tie in needed_among(disc, chosen, (tie,)) for chosen in let_sets(disc)])


def is_thin(disc):
    """Whether no tie can go."""
    return fault_of(disc) is None


def fault_of(disc):
    """A fault of the disc, or None."""
    check_disc(disc)
    # Faults of the other two kinds always come with one of the three that are looked for here.
    rounds = round_trails(disc)
    if len(rounds) > 0:
        return "round", rounds[0][0][0]
    trails = {index: trail(disc, index) for index in range(1, disc.many + 1)}
    for index, steps in trails.items():
        tie = _tie_walked_twice(steps)
        if not _has_dead_end(disc, index) and tie is not None:
            return "both", index, tie
    for one, steps in trails.items():
        for other in range(one + 1, disc.many + 1):
            pair = _pair_met_alike(disc, steps, trails[other])
            if pair is not None:
                return "twice", one, other, *pair
    return None


def is_fault(disc, value):
    """Whether the value is a fault of the disc."""
    check_disc(disc)
    if not isinstance(value, tuple) or len(value) == 0:
        return False
    word, rest = value[0], value[1:]
    if len(rest) == 1:
        return _is_fault_of_one(disc, word, rest[0])
    if len(rest) == 2 and word == "both":
        return _is_both(disc, *rest)
    return len(rest) == 4 and word == "twice" and _is_twice(disc, *rest)


def needed_sets(disc):
    """A dict from the ties, but those at dead ends of the rim, to let sets that need them, or None."""
    check_disc(disc)
    ties = _ties_that_count(disc)
    needed = {}
    for chosen in let_sets(disc):
        wanted = [tie for tie in ties if tie not in needed]
        found = needed_among(disc, chosen, wanted)
        for tie in found:
            needed[tie] = chosen
    return {tie: needed[tie] for tie in ties} if len(needed) == len(ties) else None


def is_needed_sets(disc, value):
    """Whether the value is a dict from just these ties to let sets that need them."""
    check_disc(disc)
    ties = _ties_that_count(disc)
    if not isinstance(value, dict) or len(value) != len(ties) or not all([tie in value for tie in ties]):
        return False
    return all([is_let(disc, value[tie]) and tie in needed_among(disc, value[tie], (tie,)) for tie in ties])


def check_thin(disc):
    """Raises the error for what is no disc, or is not thin."""
    if not is_thin(disc):
        raise InvalidOperation("the disc is not thin")


def _has_dead_end(disc, index):
    """Whether a dead end stands at the rim place."""
    return len(disc.round_of(disc.inner_end(index))) == 1


def _ties_that_count(disc):
    """The list of all ties but those of the rim places at which dead ends stand."""
    ended = [disc.rim[at] for at in range(disc.many) if _has_dead_end(disc, at + 1)]
    return [tie for tie in disc.ties if tie not in ended]


def _is_hanging(disc, place):
    """Whether the place is a dead end whose tie does not go to the rim."""
    ties = disc.round_of(place)
    return len(ties) == 1 and ties[0] not in disc.rim


def _ties_walked(steps):
    """The list of the ties of the steps."""
    return [step[0] for step in steps]


def _tie_walked_twice(steps):
    """The first tie that a trail walks in both directions, or None."""
    ties = _ties_walked(steps)
    twice = [tie for tie in ties if ties.count(tie) == 2]
    return twice[0] if len(twice) > 0 else None


def _comes_before(steps, tie, other):
    """Whether a step with the one tie comes before one with the other tie."""
    ties = _ties_walked(steps)
    return tie in ties and other in ties[ties.index(tie) + 1:]


def _pair_met_alike(disc, steps, others):
    """A pair of inner ties of which the first one comes before the second one on both trails, or None."""
    walked = [tie for tie in _ties_walked(others) if tie not in disc.rim]
    common = [tie for tie in _ties_walked(steps) if tie in walked]
    for one in common:
        for other in common:
            if one != other and _comes_before(steps, one, other) and _comes_before(others, one, other):
                return one, other
    return None


def _is_index(disc, value):
    """Whether the value is a rim place."""
    return is_integer(value) and 1 <= value <= disc.many


def _is_fault_of_one(disc, word, value):
    """Whether there is a fault that is told by this word and this one value."""
    if word == "end":
        return value in disc.places and _is_hanging(disc, value)
    if word == "round":
        return any([value in _ties_walked(steps) for steps in round_trails(disc)])
    if word != "fixed" or not _is_index(disc, value):
        return False
    return not _has_dead_end(disc, value) and trail(disc, value)[-1][1] == value


def _is_both(disc, index, tie):
    """Whether the trail from the rim place, at which no dead end stands, walks the tie in both directions."""
    if not _is_index(disc, index) or _has_dead_end(disc, index):
        return False
    return _ties_walked(trail(disc, index)).count(tie) == 2


def _is_twice(disc, one, other, first, last):
    """Whether the first inner tie comes before the last one on the trails from both rim places."""
    if not _is_index(disc, one) or not _is_index(disc, other) or one >= other:
        return False
    if first not in disc or last not in disc or first in disc.rim or last in disc.rim or first == last:
        return False
    return _comes_before(trail(disc, one), first, last) and _comes_before(trail(disc, other), first, last)
