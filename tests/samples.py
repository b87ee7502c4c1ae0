"""Discs and wrong values that several tests use."""

from rimtrails.base.discs import Disc
from rimtrails.base.words import nth_name
from rimtrails.errors import InvalidDisc, UnknownName

SQUARE = Disc.from_lines("rim p q r s", "white a p e h", "black b q f e", "white c r g f", "black d s h g")
STAR = Disc.from_lines("rim p q r", "white w p q r")
BLACK = Disc.from_lines("rim p q r", "black b p q r")
LINE = Disc.from_lines("rim p q", "black b p q")
DOUBLE = Disc.from_lines("rim p q", "black b p e f", "white a q f e")
# A black and a white place with a dead end each that does not go to the rim, and a dead end at the rim.
HUNG = Disc.from_lines("rim p q", "black b p e f", "white a f g", "white c e", "black d g", "white y q")


def nested(deep, make):
    """`make` around the name `a`, so many deep."""
    value = "a"
    for _ in range(deep):
        value = make(value)
    return value


def wrong_values():
    """Values of every kind named in [0.4]; none is a name, a fraction, a small integer, a round or a dict of rounds.

    The empty tuple and the empty dict are not among them, as they are right in some places.
    """
    return [
        10 ** 60, -10 ** 60, 10 ** 61, 10 ** 100 - 1, 1 - 10 ** 100, True, False, None,
        "", "A", "Z", "a1", "a b", " a", "a ", "a\n", "\n", "-", "{", "`", "abcdefghi", "a" * 4000, "~ \n" * 1333,
        ("",), ("A",), ("a", 1), (True, 1), (1, True), (2, 4), (1, 0), (1, -1), (1, 2, 3), (None,), (("a",),), ([],),
        ("a", "abcdefghi"), ({},), [], ["a"], [1, 2], [None], [[]], [("a",)],
        {1: "a"}, {"a": 1}, {"a": "b"}, {"A": ("a",)}, {"a": ["a"]}, {"a": ()}, {"a": ("b", "a")}, {"a": None},
        {None: None}, {True: "a"}, {(): ()}, {("a",): ("a",)}, {"": ("a",)}, {"a": {"a": ("a",)}},
        nested(8, lambda value: (value,)), nested(8, lambda value: [value]), nested(8, lambda value: {"a": value}),
        nested(4, lambda value: [{"a": (value,)}]),
        SQUARE, STAR, (SQUARE,), [SQUARE], {"a": SQUARE}, InvalidDisc("a"), UnknownName("a"),
    ]


def common_ties(many):
    """The rim and both dicts of a web with one rim place and so many ties between its two inner places."""
    names = tuple(sorted(nth_name(index) for index in range(many)))
    return ("rim",), {"b": (*names, "rim")}, {"a": (names[0], *reversed(names[1:]))}


def is_hashable(value):
    """Whether the value can be a key of a dict."""
    try:
        hash(value)
    except TypeError:
        return False
    return True
