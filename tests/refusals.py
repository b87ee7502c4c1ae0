"""What tests need to say that wrong arguments are refused, and with which error."""

import inspect

from rimtrails.base.discs import Disc
from rimtrails.errors import InvalidDiagram, InvalidDisc, InvalidNumber, InvalidOperation, InvalidOrder, UnknownName
from rimtrails.order.diagrams import Diagram
from rimtrails.order.orders import Order
from tests.samples import wrong_values

KEPT = {InvalidNumber: "value", UnknownName: "name"}
# Which objects are right where the error is raised for others.
OBJECTS = {InvalidDisc: Disc, InvalidOrder: Order, InvalidDiagram: Diagram}


def wrong_kinds(error):
    """Values of all kinds, but for those that are right where the error is raised for others."""
    objects = [Order((2, 4, 3)), Diagram(2, (1,), ((1, 2),))]
    right = OBJECTS.get(error, ())
    return [value for value in (*wrong_values(), *objects, (), {}, "a") if not isinstance(value, right)]


def no_discs():
    """Values that are no disc, with the error for them."""
    return InvalidDisc, [*wrong_kinds(InvalidDisc), 1]


def no_orders():
    """Values that are no order, with the error for them."""
    return InvalidOrder, [*wrong_kinds(InvalidOrder), 1, (2, 3), "order 2 3"]


def no_numbers(least, greatest):
    """Values that are no integer from the least to the greatest one, with the error for them."""
    return InvalidNumber, [*wrong_kinds(InvalidNumber), "1", (1,), [1], least - 1, greatest + 1, greatest + 100]


def no_ties(disc):
    """Values that are no tie of the disc, with the error for them."""
    return UnknownName, [value for value in wrong_kinds(UnknownName) if value != "a"] + [0, 1, "nosuch", (disc.ties[0],), [disc.ties[0]]]


def not_one_of(right, error=InvalidOperation):
    """Wrong values of all kinds, but for the right ones, with the error for them."""
    right = [repr(value) for value in right]
    return error, [value for value in (*wrong_kinds(error), 0, 1, 2, -1) if repr(value) not in right]


def run(function, args, named):
    """Calls the function; a generator must not fail before its first result is asked for."""
    result = function(*args, **named)
    if inspect.isgeneratorfunction(function):
        return next(iter(result), None)
    return result


def check_refused(test, error, kept, function, *args, **named):
    """The call is refused with just this error, which keeps the value if it keeps one."""
    with test.assertRaises(error, msg=(function, args, named)) as caught:
        run(function, args, named)
    test.assertIs(type(caught.exception), error, (function, args, named))
    if error in KEPT:
        test.assertIs(getattr(caught.exception, KEPT[error]), kept)


def check_arguments(test, function, right, wrong, named=()):
    """Each wrong value is refused at its place; of two wrong ones the first one tells the error.

    `right` are right arguments, by position; `wrong` is a list of pairs of an error and values, one pair for
    each argument. `named` is a list of triples of a keyword, an error and values.
    """
    places = [((at, None), told) for at, told in enumerate(wrong) if told is not None]
    places += [((None, keyword), (error, values)) for keyword, error, values in named]
    for index, (place, (error, values)) in enumerate(places):
        for value in values:
            args, words = _with_value(list(right), {}, place, value)
            check_refused(test, error, value, function, *args, **words)
        for later, (_, others) in places[index + 1:]:
            args, words = _with_value(list(right), {}, place, values[0])
            args, words = _with_value(args, words, later, others[-1])
            check_refused(test, error, values[0], function, *args, **words)


def _with_value(args, words, place, value):
    at, keyword = place
    if keyword is None:
        args[at] = value
    else:
        words = {**words, keyword: value}
    return args, words


def near(value):
    """Values that are like this one but for one thing, and of other kinds."""
    if isinstance(value, bool) or value is None:
        return [0, 1, "a", not value]
    if isinstance(value, int):
        return [value + 1, value - 1, -value, str(value), (value,), None, *([bool(value)] if value in (0, 1) else [])]
    if isinstance(value, str):
        return [value + "a", value[:-1], value.upper(), value + " ", "", (value,), None, 1]
    if isinstance(value, dict):
        return _near_dicts(value)
    items = list(value)
    found = [items, (*items, None), tuple(items[::-1]), (tuple(items),), tuple(items[1:]) + tuple(items[:1])]
    for at, item in enumerate(items):
        found.append((*items[:at], *items[at + 1:]))
        found.append((*items[:at], item, *items[at:]))
        found.append((*items[:at], *items[at + 1:at + 2], item, *items[at + 2:]))
        found.extend((*items[:at], other, *items[at + 1:]) for other in near(item))
    return found


def _near_dicts(value):
    found = [list(value.items()), tuple(value), {**value, "nosuch": "a"}, {**value, 0: 0}, {**value, None: None}]
    for key, item in value.items():
        rest = {other: value[other] for other in value if other != key}
        found.append(rest)
        found.extend({**rest, other: item} for other in near(key) if not isinstance(other, (list, dict)))
        found.extend({**rest, key: other} for other in near(item))
    return found


def check_judge(test, judge, right, others=()):
    """The judge tells the right values from the wrong ones of every kind, and from those that are near them."""
    told = {repr(_in_order(value)) for value in right}
    for value in right:
        test.assertIs(judge(value), True, value)
    found = [*wrong_kinds(None), 0, 1, 2, *others]
    for value in right:
        found.extend(near(value))
    for value in found:
        test.assertIs(judge(value), repr(_in_order(value)) in told, value)


def _in_order(value):
    """The value with the keys of a dict in one order, as their order does not count."""
    if isinstance(value, dict):
        return dict(sorted(value.items(), key=repr))
    return value


def check_unchanged(test, value, function):
    """The function leaves what it is passed as it was."""
    before = repr(value)
    function(value)
    test.assertEqual(repr(value), before)
