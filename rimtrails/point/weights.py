"""What numbers on the ties of a disc tell, and what becomes of them; here they can have any length."""

from math import gcd

from rimtrails.base.webs import other_end
from rimtrails.base.words import is_fraction, is_integer, new_names
from rimtrails.errors import InvalidNumber, InvalidOperation
from rimtrails.pair.counts import sum_with_set
from rimtrails.pair.pairings import count_pairings, let_sets
from rimtrails.thin.squares import squares_of


def told_by(disc, numbers):
    """The dict from the let sets to their told numbers [14.1]."""
    count_pairings(disc)
    return {chosen: sum_with_set(disc, chosen, numbers) for chosen in let_sets(disc)}


def point_by(disc, numbers):
    """The point that the numbers tell."""
    return without_divisor(told_by(disc, numbers))


def without_divisor(told):
    """The dict with its integers, which are not all 0, divided by their greatest common divisor."""
    divisor = 0
    for number in told.values():
        divisor = gcd(divisor, number)
    return {chosen: number // divisor for chosen, number in told.items()}


def rescaled_by(disc, numbers, place, factor):
    """The numbers behind a rescaling at the place by the factor."""
    ties = disc.round_of(place)
    if not is_fraction(factor) or not is_integer(factor[0]) or not is_integer(factor[1]) or factor[0] < 1:
        raise InvalidNumber(factor)
    top, bottom = factor
    if not all([numbers[tie] * top % bottom == 0 for tie in ties]):
        raise InvalidOperation("a number would be no integer any more")
    return {tie: numbers[tie] * top // bottom if tie in ties else numbers[tie] for tie in disc.ties}


def numbers_behind(disc, numbers, move):
    """The numbers behind a move of the disc [14.6]."""
    word, rest = move[0], move[1:]
    if word == "draw":
        return _behind_draw(disc, numbers, *rest)
    if word == "pull":
        return by_tie({**numbers, **{tie: 1 for tie in new_names(disc.ties, 2)}})
    if word == "put":
        return with_place_put(disc, numbers, *rest)
    return _behind_square(disc, numbers, *rest)


def with_place_put(disc, numbers, index):
    """The numbers with a new place put on the tie of the rim place, which gets 1."""
    tie = disc.rim[index - 1]
    return by_tie({**numbers, new_names(disc.ties, 1)[0]: numbers[tie], tie: 1})


def numbers_with_bridge(disc, numbers, bridge, wanting):
    """The numbers with a bridge that has this number; places were put on the ties of the wanting rim places."""
    changed = dict(numbers)
    *names, last = new_names(disc.ties, len(wanting) + 1)
    for index, name in zip(wanting, names):
        changed[name] = changed[disc.rim[index - 1]]
        changed[disc.rim[index - 1]] = 1
    changed[last] = bridge
    return by_tie(changed)


def by_tie(numbers):
    """The numbers with their ties ascending."""
    return {tie: numbers[tie] for tie in sorted(list(numbers))}


def _behind_draw(disc, numbers, place):
    """The numbers behind the draw at the place."""
    first, last = disc.round_of(place)
    changed = {tie: numbers[tie] for tie in numbers if tie not in (first, last)}
    for own, other in ((first, last), (last, first)):
        end = other_end(disc.ends_of(own), place)
        if isinstance(end, int):
            changed[own] = numbers[other]
        else:
            for tie in disc.round_of(end):
                if tie != own:
                    changed[tie] = numbers[tie] * numbers[other]
    return by_tie(changed)


def _behind_square(disc, numbers, ties):
    """The numbers behind turning over the square that has these ties."""
    corners = squares_of(disc)[ties]
    given = new_names(disc.ties, 8)
    legs, sides = given[:4], given[4:]
    old = [numbers[tie] for _, tie in corners]
    changed = {tie: numbers[tie] for tie in numbers if tie not in ties}
    for at in range(4):
        # A new place has the colour that the old one at this corner has not.
        is_black = disc.colour(corners[at][0]) == "white"
        changed[legs[at]] = old[0] * old[2] + old[1] * old[3] if is_black else 1
        changed[sides[at]] = old[at - 2]
    return by_tie(changed)
