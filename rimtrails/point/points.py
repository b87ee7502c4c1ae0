"""Numbers on the ties of discs, and the points that they tell."""

from rimtrails.base.checks import check_disc
from rimtrails.base.sets import is_rim_set, sets_of_size
from rimtrails.base.trails import regions_of
from rimtrails.base.webs import other_end
from rimtrails.base.words import divided, in_lowest_terms, is_integer, is_whole, multiplied
from rimtrails.errors import InvalidMove, InvalidNumbers, InvalidPoint
from rimtrails.order.necklaces import sets_of
from rimtrails.order.orders import check_order
from rimtrails.point.weights import numbers_behind, point_by, rescaled_by, told_by, without_divisor
from rimtrails.thin.moves import is_move


def told_numbers(disc, numbers):
    """The dict from the let sets to their told numbers."""
    _check_numbers(disc, numbers)
    return told_by(disc, numbers)


def point_of(disc, numbers):
    """The point that the numbers tell."""
    _check_numbers(disc, numbers)
    return point_by(disc, numbers)


def is_point(order, value):
    """Whether the value is a point [14.2] of the order, with integers of any length."""
    check_order(order)
    if not _are_told(order, value):
        return False
    return without_divisor(value) == value and _failing(order, value) is None


def failing_relation(order, point):
    """The rim places (S, a, b, c, d) of a relation that is not true, or None."""
    check_order(order)
    if not _are_told(order, point) or not all([is_integer(number) for number in point.values()]):
        raise InvalidPoint("these are no integers of the let sets of the order")
    return _failing(order, point)


def rescaled(disc, numbers, place, factor):
    """The numbers behind a rescaling at the inner place by the factor."""
    _check_numbers(disc, numbers)
    return rescaled_by(disc, numbers, place, factor)


def rescaling_between(disc, one, other):
    """The dict from the inner places to the factors that lead from the one to the other numbers, or None."""
    _check_numbers(disc, one)
    _check_numbers(disc, other)
    ratios = {tie: in_lowest_terms(other[tie], one[tie]) for tie in disc.ties}
    factors = {disc.inner_end(at + 1): ratios[disc.rim[at]] for at in range(disc.many)}
    waiting = list(factors)
    while len(waiting) > 0:
        place = waiting.pop()
        for tie in disc.round_of(place):
            end = other_end(disc.ends_of(tie), place)
            if not isinstance(end, int) and end not in factors:
                factors[end] = divided(ratios[tie], factors[place])
                waiting.append(end)
    for tie in disc.ties:
        if _factor_at(disc, factors, tie) != ratios[tie]:
            return None
    return {place: factors[place] for place in disc.places}


def region_numbers(disc, numbers):
    """The tuple of the numbers of the regions [14.5], in the order of `regions_of`."""
    _check_numbers(disc, numbers)
    found = []
    for region in regions_of(disc):
        total = (1, 1)
        for step in region:
            number = numbers[step[0]]
            total = multiplied(total, (number, 1) if _does_lead_to_black(disc, step) else (1, number))
        found.append(total)
    return tuple(found)


def moved_numbers(disc, numbers, move):
    """The numbers behind the move that tell the same point."""
    _check_numbers(disc, numbers)
    if not is_move(disc, move):
        raise InvalidMove("this is no move of the disc")
    return numbers_behind(disc, numbers, move)


def _check_numbers(disc, numbers):
    """Raises the error for the first one that is no disc, or no numbers of it."""
    check_disc(disc)
    if not isinstance(numbers, dict) or len(numbers) != len(disc) or not all([tie in numbers for tie in disc.ties]):
        raise InvalidNumbers("this is no dict from just the ties of the disc")
    if not all([is_integer(number) and number >= 1 for number in numbers.values()]):
        raise InvalidNumbers("a number is no integer of at least 1")


def _are_told(order, value):
    """Whether the value is a dict from just the let sets of the order to integers of at least 1, of any length."""
    if not isinstance(value, dict) or not all([is_rim_set(order.many, chosen) for chosen in value]):
        return False
    if sorted(list(value)) != list(sets_of(order)):
        return False
    return all([is_whole(number) and number >= 1 for number in value.values()])


def _failing(order, told):
    """The rim places of the first relation [14.2] that is not true, or None."""
    if order.level < 2:
        return None
    for base in sets_of_size(order.many, order.level - 2):
        for four in sets_of_size(order.many, 4):
            if not any([place in base for place in four]) and not _is_true(told, base, four):
                return (base, *four)
    return None


def _is_true(told, base, four):
    """Whether the relation of these rim places is true; what is not let counts 0."""
    a, b, c, d = four
    terms = []
    for first, last in (((a, c), (b, d)), ((a, b), (c, d)), ((a, d), (b, c))):
        terms.append(_told_with(told, base, first) * _told_with(told, base, last))
    return terms[0] == terms[1] + terms[2]


def _told_with(told, base, pair):
    """The number of the set with the two rim places."""
    return told.get(tuple(sorted([*base, *pair])), 0)


def _factor_at(disc, factors, tie):
    """The factor by which rescaling with these factors multiplies the number of the tie."""
    first, last = disc.ends_of(tie)
    return factors[last] if isinstance(first, int) else multiplied(factors[first], factors[last])


def _does_lead_to_black(disc, step):
    """Whether the step leads from white to black; a rim place has the colour that the inner end has not."""
    tie, end = step
    if isinstance(end, int):
        return disc.colour(disc.inner_end(end)) == "white"
    return disc.colour(end) == "black"
