"""The squares that can be turned over, and their corners."""

from rimtrails.base.trails import regions_of


def squares_of(disc):
    """The dict from the ascending ties of each square [11.1] to its corners.

    A corner is a pair: a place, and the tie from there to the next corner. The corners come in the order of
    the walk round the region, from the least place on.
    """
    squares = {}
    for region in regions_of(disc):
        if _is_square(disc, region):
            corners = [(region[at - 1][1], region[at][0]) for at in range(4)]
            first = corners.index(min(corners))
            squares[tuple(sorted([step[0] for step in region]))] = tuple(corners[first:] + corners[:first])
    return squares


def _is_square(disc, region):
    """Whether the region has four corners, each of which has three ties or more."""
    places = [end for _, end in region if not isinstance(end, int)]
    if len(region) != 4 or len(places) != 4 or len(set(places)) != 4:
        return False
    return all([len(disc.round_of(place)) >= 3 for place in places])
