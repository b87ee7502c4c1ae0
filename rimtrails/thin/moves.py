"""Moves, which lead from disc to disc and keep the let sets."""

from rimtrails.base.checks import check_disc
from rimtrails.base.discs import MAX_TIES, Disc
from rimtrails.base.shapes import ties_behind
from rimtrails.base.webs import from_least, other_colour, other_end, put_in_seat
from rimtrails.base.words import are_names, is_integer, new_names
from rimtrails.build.bridges import with_place_on
from rimtrails.errors import InvalidMove
from rimtrails.pair.needs import ties_to_spare
from rimtrails.pair.pairings import let_sets
from rimtrails.thin.faults import can_be_left_out, is_thin, left_out
from rimtrails.thin.squares import squares_of


def each_move(disc):
    """Yields all moves [11.1] of the disc, ascending."""
    check_disc(disc)
    for place in disc.places:
        if _can_be_drawn(disc, place):
            yield ("draw", place)
    if _has_room(disc, 2):
        for place in disc.places:
            for tie in sorted(disc.round_of(place)):
                for count in range(1, len(disc.round_of(place))):
                    yield ("pull", place, tie, count)
    if _has_room(disc, 1):
        for index in range(1, disc.many + 1):
            if _can_be_put(disc, index):
                yield ("put", index)
    if _has_room(disc, 4):
        for ties in sorted(list(squares_of(disc))):
            yield ("square", ties)


def is_move(disc, value):
    """Whether the value is a move of the disc."""
    check_disc(disc)
    if not isinstance(value, tuple) or len(value) < 2:
        return False
    word, rest = value[0], value[1:]
    if word == "pull" and len(rest) == 3:
        return _has_room(disc, 2) and _can_be_pulled(disc, *rest)
    if len(rest) != 1:
        return False
    if word == "draw":
        return rest[0] in disc.places and _can_be_drawn(disc, rest[0])
    if word == "put":
        return _has_room(disc, 1) and _can_be_put(disc, rest[0])
    return word == "square" and _has_room(disc, 4) and are_names(rest[0]) and rest[0] in squares_of(disc)


def moved(disc, move):
    """The disc behind the move."""
    if not is_move(disc, move):
        raise InvalidMove("this is no move of the disc")
    word, rest = move[0], move[1:]
    if word == "draw":
        return _drawn(disc, *rest)
    if word == "pull":
        return _pulled(disc, *rest)
    if word == "put":
        return with_place_on(disc, *rest)
    return _turned_over(disc, *rest)


def is_short(disc):
    """Whether no inner place has just two ties, but black ones between two rim places."""
    check_disc(disc)
    white = disc.white
    return not any([place in white or not _is_between_rim_places(disc, place)
                    for place in disc.places if len(disc.round_of(place)) == 2])


def shortened(disc):
    """The disc behind all draws, each one at the least place, with black places alone between rim places."""
    check_disc(disc)
    move = least_draw(disc)
    while move is not None:
        disc = moved(disc, move)
        move = least_draw(disc)
    black, white = disc.black, disc.white
    for place in white_between_rim_places(disc):
        black[place] = white.pop(place)
    return Disc(disc.rim, black, white)


def made_thin(disc):
    """Ties without which the disc is thin and has the same let sets, ascending."""
    return ties_to_spare(disc, let_sets(disc))


def is_thinning(disc, value):
    """Whether the value are ties without which the disc is thin and has the same let sets."""
    check_disc(disc)
    if not can_be_left_out(disc, value):
        return False
    left = left_out(disc, value)
    return is_thin(left) and let_sets(left) == let_sets(disc)


def least_draw(disc):
    """The draw at the least place where there is one, or None."""
    places = [place for place in disc.places if _can_be_drawn(disc, place)]
    return ("draw", places[0]) if len(places) > 0 else None


def white_between_rim_places(disc):
    """The list of the white places that have two ties, both to the rim."""
    white = disc.white
    return [place for place in white if len(white[place]) == 2 and _is_between_rim_places(disc, place)]


def _has_room(disc, many):
    """Whether a disc can have so many ties more."""
    return len(disc) + many <= MAX_TIES


def _is_between_rim_places(disc, place):
    """Whether all ties of the place go to the rim."""
    return all([tie in disc.rim for tie in disc.round_of(place)])


def _can_be_drawn(disc, place):
    """Whether what is next to the inner place can be drawn together."""
    ends = [other_end(disc.ends_of(tie), place) for tie in disc.round_of(place)]
    if len(ends) != 2 or ends[0] == ends[1] or _is_between_rim_places(disc, place):
        return False
    return all([isinstance(end, int) or len(disc.round_of(end)) > 1 for end in ends])


def _can_be_pulled(disc, place, tie, count):
    """Whether the three values tell a pull, if there is room for its ties."""
    if place not in disc.places or tie not in disc.round_of(place):
        return False
    return is_integer(count) and 1 <= count < len(disc.round_of(place))


def _can_be_put(disc, index):
    """Whether the value is a rim place at which no dead end stands."""
    return is_integer(index) and 1 <= index <= disc.many and len(disc.round_of(disc.inner_end(index))) > 1


def _drawn(disc, place):
    """The disc with what is next to the place drawn together."""
    colour = other_colour(disc.colour(place))
    rounds = {"black": disc.black, "white": disc.white}
    first, last = rounds[disc.colour(place)].pop(place)
    one, other = [other_end(disc.ends_of(tie), place) for tie in (first, last)]
    if isinstance(one, int):
        put_in_seat(rounds[colour], other, last, (first,))
    elif isinstance(other, int):
        put_in_seat(rounds[colour], one, first, (last,))
    else:
        ties = ties_behind(rounds[colour].pop(one), first)[:-1] + ties_behind(rounds[colour].pop(other), last)[:-1]
        rounds[colour][min(one, other)] = from_least(ties)
    return Disc(disc.rim, rounds["black"], rounds["white"])


def _pulled(disc, place, tie, count):
    """The disc with some ties of the place pulled apart from the others."""
    colour = disc.colour(place)
    rounds = {"black": disc.black, "white": disc.white}
    ties = disc.round_of(place)
    at = ties.index(tie)
    ties = ties[at:] + ties[:at]
    apart, between = new_names(disc.places, 2)
    near, far = new_names(disc.ties, 2)
    rounds[colour][place] = from_least((near, *ties[count:]))
    rounds[colour][apart] = from_least((far, *ties[:count]))
    rounds[other_colour(colour)][between] = from_least((near, far))
    return Disc(disc.rim, rounds["black"], rounds["white"])


def _turned_over(disc, ties):
    """The disc with the square that has these ties turned over."""
    corners = squares_of(disc)[ties]
    rounds = {"black": disc.black, "white": disc.white}
    places = new_names(disc.places, 4)
    given = new_names(disc.ties, 8)
    legs, sides = given[:4], given[4:]
    for at in range(4):
        old, colour = corners[at][0], disc.colour(corners[at][0])
        # The tie by which the walk comes to the corner stands just ahead of the one by which it goes on.
        put_in_seat(rounds[colour], old, corners[at][1], ())
        put_in_seat(rounds[colour], old, corners[at - 1][1], (legs[at],))
        rounds[other_colour(colour)][places[at]] = from_least((legs[at], sides[at - 1], sides[at]))
    return Disc(disc.rim, rounds["black"], rounds["white"])
