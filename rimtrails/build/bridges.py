"""Bridges between rim places, and a thin disc for each order that is built by them."""

from rimtrails.base.checks import check_disc, check_number
from rimtrails.base.discs import MAX_RIM, MAX_TIES, Disc
from rimtrails.base.webs import from_least, other_colour, put_in_seat
from rimtrails.base.words import is_integer, new_name, nth_name
from rimtrails.errors import InvalidOperation, TooMany
from rimtrails.order.orders import Order, check_order


def bare_disc(marks):
    """The disc with dead ends alone, of these colours."""
    if not isinstance(marks, tuple) or not 1 <= len(marks) <= MAX_RIM or not all([_is_colour(mark) for mark in marks]):
        raise InvalidOperation("these are no colours of dead ends")
    names = tuple([nth_name(at) for at in range(len(marks))])
    rounds = {"black": {}, "white": {}}
    for name, mark in zip(names, marks):
        rounds[mark][name] = (name,)
    return Disc(names, rounds["black"], rounds["white"])


def with_rim_place(disc, index, colour):
    """The disc with a further rim place of this number, at which a dead end stands."""
    check_disc(disc)
    check_number(index, 1, disc.many + 1)
    if not _is_colour(colour):
        raise InvalidOperation("this is no colour of a dead end")
    if disc.many == MAX_RIM:
        raise TooMany(MAX_RIM)
    _check_ties(len(disc) + 1)
    rounds = {"black": disc.black, "white": disc.white}
    tie = new_name(disc.ties)
    rounds[colour][new_name(disc.places)] = (tie,)
    rim = (*disc.rim[:index - 1], tie, *disc.rim[index - 1:])
    return Disc(rim, rounds["black"], rounds["white"])


def bridged(disc, index, *, ends=False):
    """The disc with a bridge of starts at the rim place, or with one of ends."""
    check_bridge(disc, index, ends)
    first, last = ("black", "white") if ends else ("white", "black")
    wanting = [seat for seat, colour in ((index, first), (index + 1, last))
               if disc.colour(disc.inner_end(seat)) != colour]
    _check_ties(len(disc) + len(wanting) + 1)
    for seat in wanting:
        disc = with_place_on(disc, seat)
    rounds = {"black": disc.black, "white": disc.white}
    tie = new_name(disc.ties)
    put_in_seat(rounds[first], disc.inner_end(index), disc.rim[index - 1], (disc.rim[index - 1], tie))
    put_in_seat(rounds[last], disc.inner_end(index + 1), disc.rim[index], (tie, disc.rim[index]))
    return Disc(disc.rim, rounds["black"], rounds["white"])


def check_bridge(disc, index, ends):
    """Raises the error for the first one that is no disc, no rim place with a next one, or neither True nor False."""
    check_disc(disc)
    check_number(index, 1, disc.many - 1)
    if ends is not True and ends is not False:
        raise InvalidOperation("a bridge is one of ends, or it is not")


def with_place_on(disc, index):
    """The disc with a new place on the tie of the rim place, of the colour that its inner end has not."""
    rounds = {"black": disc.black, "white": disc.white}
    old = disc.inner_end(index)
    colour = disc.colour(old)
    tie = new_name(disc.ties)
    put_in_seat(rounds[colour], old, disc.rim[index - 1], (tie,))
    rounds[other_colour(colour)][new_name(disc.places)] = from_least((disc.rim[index - 1], tie))
    return Disc(disc.rim, rounds["black"], rounds["white"])


def is_steps(value):
    """Whether the value is the steps [9.4] of some order."""
    return _numbers_by(value) is not None


def order_by(steps):
    """The order that the steps make."""
    numbers = _numbers_by(steps)
    if numbers is None:
        raise InvalidOperation("these are the steps of no order")
    return Order(numbers)


def disc_by(steps):
    """The disc that the steps make."""
    order_by(steps)
    disc = bare_disc((steps[0][0],))
    for word, index in steps[1:]:
        disc = bridged(disc, index) if word == "bridge" else with_rim_place(disc, index, word)
    return disc


def steps_of(order):
    """The steps that are found backward from the order."""
    check_order(order)
    numbers = order.numbers
    steps = []
    while len(numbers) > 0:
        steps.append(_last_step(numbers))
        word, index = steps[-1]
        numbers = _exchanged(numbers, index) if word == "bridge" else _without(numbers, index)
    return tuple(steps[::-1])


def disc_of(order):
    """The thin disc that the steps of the order make."""
    return disc_by(steps_of(order))


def _is_colour(value):
    """Whether the value is the word for a colour."""
    return value in ("black", "white")


def _check_ties(many):
    """Raises the error for more ties than a disc can have."""
    if many > MAX_TIES:
        raise TooMany(MAX_TIES)


def _numbers_by(value):
    """The numbers of the order that the steps make, or None if the value is no steps."""
    if not isinstance(value, tuple):
        return None
    numbers = ()
    for step in value:
        if not isinstance(step, tuple) or len(step) != 2 or not is_integer(step[1]):
            return None
        word, index = step
        if _is_colour(word) and len(numbers) < MAX_RIM and 1 <= index <= len(numbers) + 1:
            numbers = _with_fixed(numbers, index, word)
        elif word == "bridge" and _is_falling_at(numbers, index):
            numbers = _exchanged(numbers, index)
        else:
            return None
    return numbers if len(numbers) > 0 else None


def _is_falling_at(numbers, index):
    """Whether there are these two rim places, and the number at the first one is greater."""
    return 1 <= index < len(numbers) and numbers[index - 1] > numbers[index]


def _exchanged(numbers, index):
    """The numbers with those at the rim place and at the next one exchanged."""
    return (*numbers[:index - 1], numbers[index], numbers[index - 1], *numbers[index + 1:])


def _with_fixed(numbers, index, colour):
    """The numbers of the order with a further rim place, which is fixed."""
    many = len(numbers)
    moved = [_renumbered(number, many, index - 1, 1) for number in numbers]
    own = index if colour == "black" else index + many + 1
    return (*moved[:index - 1], own, *moved[index - 1:])


def _without(numbers, index):
    """The numbers of the order without a rim place, which is fixed."""
    many = len(numbers)
    others = (*numbers[:index - 1], *numbers[index:])
    return tuple([_renumbered(number, many, index, -1) for number in others])


def _renumbered(number, many, last, by):
    """A number of an order of so many rim places, if those behind `last` get numbers that differ by `by`."""
    end = (number - 1) % many + 1
    moved = end + by if end > last else end
    return moved + many + by if number > many else moved


def _last_step(numbers):
    """The last one of the steps of the order with these numbers."""
    many = len(numbers)
    for index in range(1, many + 1):
        if numbers[index - 1] == index:
            return "black", index
        if numbers[index - 1] == index + many:
            return "white", index
    rising = [index for index in range(1, many) if numbers[index - 1] < numbers[index]]
    return "bridge", rising[0]
