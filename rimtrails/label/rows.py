"""Rows of moves from discs to their shortened ones, and back."""

from rimtrails.base.shapes import names_by_shape
from rimtrails.base.webs import other_end
from rimtrails.pair.turns import ends_by_name
from rimtrails.thin.moves import least_draw, moved, white_between_rim_places


def moves_to_short(disc):
    """The list of moves from the disc to what its shortened disc is but for names."""
    row = []
    move = least_draw(disc)
    while move is not None:
        row.append(move)
        disc = moved(disc, move)
        move = least_draw(disc)
    for place in white_between_rim_places(disc):
        # The new place is black, and what was at the white one is drawn to it.
        row.append(("put", disc.ends_of(disc.round_of(place)[0])[0]))
        row.append(("draw", place))
    return row


def discs_behind(disc, row):
    """The list of the disc and of those behind each of the moves, one after the other."""
    discs = [disc]
    for move in row:
        discs.append(moved(discs[-1], move))
    return discs


def moves_from_short(disc, goal):
    """The list of moves to what the goal is but for names, from what its shortened disc is but for names."""
    row = moves_to_short(goal)
    discs = discs_behind(goal, row)
    back = []
    for at in range(len(row) - 1, -1, -1):
        back.append(_named_as_in(_taken_back(discs[at], row[at]), discs[at + 1], disc))
        disc = moved(disc, back[-1])
    return back


def _taken_back(disc, move):
    """The move that leads from the disc behind a draw or a put back to the disc, but for names."""
    if move[0] == "put":
        return ("draw", moved(disc, move).inner_end(move[1]))
    place = move[1]
    ties = disc.round_of(place)
    ends = [other_end(disc.ends_of(tie), place) for tie in ties]
    for end in ends:
        if isinstance(end, int):
            return ("put", end)
    far = disc.round_of(ends[1])
    first = far[(far.index(ties[1]) + 1) % len(far)]
    return ("pull", min(ends), first, len(far) - 1)


def _named_as_in(move, disc, other):
    """The move of the one disc, with the names of the other one, which is the same but for names."""
    old_places, old_ties = _shape_names(disc)
    new_places, new_ties = _shape_names(other)
    places = {name: place for place, name in new_places.items()}
    ties = {name: tie for tie, name in new_ties.items()}
    if move[0] == "put":
        return move
    if move[0] == "draw":
        return ("draw", places[old_places[move[1]]])
    return ("pull", places[old_places[move[1]]], ties[old_ties[move[2]]], move[3])


def _shape_names(disc):
    """The dicts from the places, and from the ties, to their names in `named_anew`."""
    rounds = {place: disc.round_of(place) for place in disc.places}
    return names_by_shape(disc.rim, rounds, ends_by_name(disc))
