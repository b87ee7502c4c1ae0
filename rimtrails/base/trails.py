"""Trails that cross a disc, and the regions that its ties leave."""

from rimtrails.base.checks import check_disc, check_number, check_tie
from rimtrails.base.webs import other_end, steps_behind
from rimtrails.base.words import is_integer, is_name
from rimtrails.errors import InvalidOperation


def trail(disc, index):
    """The steps from the rim place to another one, or to itself."""
    check_disc(disc)
    check_number(index, 1, disc.many)
    return _trail_from(disc, index, _next_on_trails(disc))


def trail_ends(disc):
    """The rim places at which the trails from 1, 2, .., n end."""
    check_disc(disc)
    return tuple([steps[-1][1] for steps in _trails_of(disc)])


def trail_with(disc, tie, end):
    """The trail or the round trail in which the tie is walked to this end."""
    _check_step(disc, tie, end)
    return _walk_with((tie, end), [*_trails_of(disc), *round_trails(disc)])


def round_trails(disc):
    """All round trails, ascending by their first steps."""
    check_disc(disc)
    met = {}
    for steps in _trails_of(disc):
        for step in steps:
            met[step] = True
    following = _next_on_trails(disc)
    return _closed_walks({step: following[step] for step in following if step not in met})


def regions_of(disc):
    """All regions, ascending by their first steps."""
    check_disc(disc)
    rounds = {place: disc.round_of(place) for place in disc.places}
    ends = {tie: disc.ends_of(tie) for tie in disc.ties}
    return _closed_walks(steps_behind(disc.rim, rounds, ends))


def region_at(disc, index):
    """The region that touches the rim just before the rim place."""
    check_disc(disc)
    check_number(index, 1, disc.many)
    return _walk_with((disc.rim[index - 1], index), regions_of(disc))


def region_beside(disc, tie, end):
    """The region on the left of who walks the tie to this end."""
    _check_step(disc, tie, end)
    return _walk_with((tie, end), regions_of(disc))


def regions_across(disc, tie):
    """The regions on the left of who walks the tie to its first, and to its last end."""
    check_disc(disc)
    check_tie(disc, tie)
    first, last = disc.ends_of(tie)
    return region_beside(disc, tie, first), region_beside(disc, tie, last)


def _check_step(disc, tie, end):
    """Raises the error for the first value that keeps `(tie, end)` from being a step of the disc."""
    check_disc(disc)
    check_tie(disc, tie)
    # True would be found among the ends as 1.
    if not (is_integer(end) or is_name(end)) or end not in disc.ends_of(tie):
        raise InvalidOperation("the tie has no such end")


def _next_on_trails(disc):
    """The dict from each step that comes to an inner place to the next one of its trail or round trail."""
    following = {}
    for place in disc.places:
        ties = disc.round_of(place)
        seats = 1 if disc.colour(place) == "white" else -1
        for at, tie in enumerate(ties):
            away = ties[(at + seats) % len(ties)]
            following[(tie, place)] = (away, other_end(disc.ends_of(away), place))
    return following


def _trail_from(disc, index, following):
    """The trail from the rim place."""
    return tuple(_walk_from((disc.rim[index - 1], disc.inner_end(index)), following))


def _trails_of(disc):
    """The list of the trails from all rim places."""
    following = _next_on_trails(disc)
    return [_trail_from(disc, at + 1, following) for at in range(disc.many)]


def _walk_from(first, following):
    """The list of the steps from the first one on, until none follows or the first one comes again."""
    steps = [first]
    step = following.get(first)
    while step is not None and step != first:
        steps.append(step)
        step = following.get(step)
    return steps


def _closed_walks(following):
    """The closed walks of all steps, each one from its least step on, ascending by their first steps."""
    met = {}
    walks = []
    for first in sorted(list(following), key=_rank):
        if first not in met:
            walks.append(tuple(_walk_from(first, following)))
            for step in walks[-1]:
                met[step] = True
    return tuple(walks)


def _rank(step):
    """What the step is compared by [3.1]."""
    tie, end = step
    if isinstance(end, int):
        return (0, end, tie, "")
    return (1, 0, tie, end)


def _walk_with(step, walks):
    """That one of the walks that has the step."""
    return [walk for walk in walks if step in walk][0]
