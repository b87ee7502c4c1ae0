"""Neighbours of their own for places, and the rule 5 of [2.1]."""

from rimtrails.base.webs import other_end


def lack_among(rounds, ends):
    """Places of one colour that are more than their neighbours [4.3], ascending; () if there are none.

    `rounds` are those of all places of this colour, `ends` is the dict from ties to the pairs of their ends.
    If there is no lack, neither among the black nor among the white places, there is a pairing: places of
    both colours that can be paired apart from one another can be paired together.
    """
    neighbours = {}
    for place, ties in rounds.items():
        neighbours[place] = [other_end(ends[tie], place) for tie in ties]
    return tuple(sorted(matched(neighbours)[1]))


def matched(neighbours):
    """Gives each place one of its neighbours, no two the same one.

    Returns the dict from the neighbours that are held to the places that hold them, and a list: it is empty,
    or it tells some places that are more than all their neighbours, and then not all places hold one.
    """
    holders = {}
    for place in neighbours:
        asked, holding = _asked_from(place, neighbours, holders)
        free = [neighbour for neighbour in asked if neighbour not in holders]
        if len(free) == 0:
            return holders, list(holding)
        for given, taker in _gifts(free[0], asked, holding):
            holders[given] = taker
    return holders, []


def _asked_from(start, neighbours, holders):
    """Whom places ask for a neighbour, if `start` asks first, and then the holders of what is asked for.

    Returns the dict from neighbours to the places that ask for them, which ends at the first one that nobody
    holds, and the dict from the places that ask to what they hold, which is None for `start` alone.
    """
    asked = {}
    holding = {start: None}
    waiting = [start]
    at = 0
    while at < len(waiting):
        place = waiting[at]
        at += 1
        for neighbour in neighbours[place]:
            if neighbour in asked:
                continue
            asked[neighbour] = place
            if neighbour not in holders:
                return asked, holding
            holding[holders[neighbour]] = neighbour
            waiting.append(holders[neighbour])
    return asked, holding


def _gifts(free, asked, holding):
    """The pairs of a neighbour and the place that gets it, so that the free neighbour is held, too."""
    gifts = []
    given = free
    while given is not None:
        taker = asked[given]
        gifts.append((given, taker))
        given = holding[taker]
    return gifts
