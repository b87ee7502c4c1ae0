"""Webs of places and ties, which need not be drawn in a disc yet, and the rules 1 to 4 of [2.1].

Functions here take `rim`, the tuple of the ties of the rim, `black`, `white` or `rounds`, dicts from inner
places to their rounds, and `ends`, the dict from ties to the pairs of their ends.
"""

from rimtrails.base.words import are_names, is_name


def from_least(ties):
    """The ties of a round, told from the least one on."""
    at = ties.index(min(ties))
    return ties[at:] + ties[:at]


def put_in_seat(rounds, place, tie, ties):
    """Puts the ties into the round of the place, in the seat of one tie."""
    own = rounds[place]
    at = own.index(tie)
    rounds[place] = from_least((*own[:at], *ties, *own[at + 1:]))


def are_rounds(value):
    """Whether the value is a dict from names to rounds that begin with the least name."""
    if not isinstance(value, dict):
        return False
    return all([is_name(place) and _is_round(value[place]) for place in value])


def _is_round(value):
    """Whether the value is a tuple of names, at least one, that begins with the least one."""
    return are_names(value) and len(value) > 0 and value[0] == min(value)


def ends_by_tie(rim, black, white):
    """The dict from the ties to the tuples of their ends: rim places first, then black, then white places."""
    ends = {}
    for at, tie in enumerate(rim):
        ends[tie] = ends.get(tie, ()) + (at + 1,)
    for place, ties in list(black.items()) + list(white.items()):
        for tie in ties:
            ends[tie] = ends.get(tie, ()) + (place,)
    return ends


def are_ends(value, black, white):
    """Whether the ends of a tie, in the order of `ends_by_tie`, keep the rules 1 and 2."""
    if len(value) != 2:
        return False
    first, last = value
    if first in black:
        return last in white
    # A rim place cannot be joined with another one, nor a white place with a white one.
    return first not in white and (last in black or last in white)


def other_end(pair, end):
    """That one of the two ends of a tie that is not the told one."""
    return pair[1] if pair[0] == end else pair[0]


def other_colour(colour):
    """That one of the two colours that is not the told one."""
    return "white" if colour == "black" else "black"


def reached_from_rim(rim, rounds, ends):
    """The dict of True for the inner places to which one comes from these ties of the rim along those of the rounds."""
    met = {}
    waiting = [ends[tie][1] for tie in rim]
    while len(waiting) > 0:
        place = waiting.pop()
        if place not in met and place in rounds:
            met[place] = True
            waiting.extend([other_end(ends[tie], place) for tie in rounds[place]])
    return met


def do_all_reach_rim(rim, rounds, ends):
    """Whether one comes from each inner place to the rim along ties: rule 3."""
    return len(reached_from_rim(rim, rounds, ends)) == len(rounds)


def steps_behind(rim, rounds, ends):
    """The dict from each step, a pair of a tie and the end one comes to, to the next one round its region.

    The rim counts as one more place, whose round is the rim in the opposite order: rule 4.
    """
    behind = {}
    for at, tie in enumerate(rim):
        away = rim[at - 1]
        behind[(tie, at + 1)] = (away, ends[away][1])
    for place, ties in rounds.items():
        for at, tie in enumerate(ties):
            away = ties[(at + 1) % len(ties)]
            behind[(tie, place)] = (away, other_end(ends[away], place))
    return behind


def count_walks(behind):
    """How many closed walks there are, if each step is followed by the one that the dict tells."""
    walked = {}
    count = 0
    for first in behind:
        if first not in walked:
            count += 1
        step = first
        while step not in walked:
            walked[step] = True
            step = behind[step]
    return count
