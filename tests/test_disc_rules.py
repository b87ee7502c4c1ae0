"""[2.1]: what is a disc, and what is none."""

import itertools
import unittest

from rimtrails.base import discs
from rimtrails.base.discs import Disc, is_drawn
from rimtrails.base.webs import from_least
from rimtrails.base.words import nth_name
from rimtrails.errors import InvalidDisc
from tests.samples import BLACK, DOUBLE, HUNG, LINE, SQUARE, STAR, common_ties, is_hashable, wrong_values


def is_accepted(rim, black, white):
    try:
        Disc(rim, black, white)
    except InvalidDisc:
        return False
    return True


def some_pairing_exists(rounds):
    """Whether some of the ties have each inner place as an end of just one, tried out place by place."""
    def can_be_paired(places, used):
        if not places:
            return True
        place = places[0]
        if any(tie in used for tie in rounds[place]):
            return can_be_paired(places[1:], used)
        for tie in rounds[place]:
            others = [other for other in rounds if other != place and tie in rounds[other]]
            if not any(one in used for other in others for one in rounds[other]):
                if can_be_paired(places[1:], used | {tie}):
                    return True
        return False
    return can_be_paired(sorted(rounds), frozenset())


class Limits(unittest.TestCase):
    def test_constants(self):
        self.assertEqual((discs.MAX_RIM, discs.MAX_TIES), (8, 60))

    def test_rim_places(self):
        for many in range(1, 9):
            ties = tuple(nth_name(index) for index in range(many))
            self.assertEqual(Disc(ties, {"b": ties}, {}).many, many)
            self.assertEqual(Disc(ties, {}, {"w": ties}).level, 1)
        ties = tuple(nth_name(index) for index in range(9))
        self.assertFalse(is_accepted(ties, {"b": ties}, {}))
        self.assertFalse(is_accepted((), {}, {}))
        self.assertFalse(is_accepted((), {"b": ("a",)}, {"w": ("a",)}))

    def test_ties(self):
        self.assertEqual(len(Disc(*common_ties(59))), 60)
        self.assertEqual(Disc(*common_ties(59)).regions, 59)
        self.assertFalse(is_accepted(*common_ties(60)))
        self.assertFalse(is_accepted(*common_ties(200)))

    def test_names_of_eight_letters(self):
        self.assertTrue(is_accepted(("abcdefgh",), {"hgfedcba": ("abcdefgh",)}, {}))
        self.assertFalse(is_accepted(("abcdefghi",), {"b": ("abcdefghi",)}, {}))
        self.assertFalse(is_accepted(("a",), {"abcdefghi": ("a",)}, {}))
        self.assertFalse(is_accepted(("a",), {}, {"abcdefghi": ("a",)}))

    def test_a_tie_can_have_the_name_of_a_place(self):
        self.assertEqual(Disc(("a",), {"a": ("a",)}, {}).ends_of("a"), (1, "a"))
        disc = Disc(("w", "b"), {"b": ("x", "w")[::-1]}, {"w": ("b", "x")})
        self.assertEqual((disc.ends_of("b"), disc.ends_of("w"), disc.ends_of("x")), ((2, "w"), (1, "b"), ("b", "w")))

    def test_rounds_begin_with_the_least_name(self):
        self.assertTrue(is_accepted(("a", "b", "c"), {"x": ("a", "b", "c")}, {}))
        self.assertFalse(is_accepted(("a", "b", "c"), {"x": ("b", "c", "a")}, {}))
        self.assertFalse(is_accepted(("a", "b", "c"), {}, {"x": ("c", "a", "b")}))

    def test_rounds_have_ties(self):
        self.assertFalse(is_accepted(("a",), {"b": ("a",), "c": ()}, {}))
        self.assertFalse(is_accepted(("a",), {"b": ("a",)}, {"c": ()}))

    def test_a_place_has_one_colour(self):
        self.assertFalse(is_accepted(("a", "b"), {"x": ("a",)}, {"x": ("b",)}))
        self.assertFalse(is_accepted(("a",), {"x": ("a",)}, {"x": ("a",)}))
        self.assertTrue(is_accepted(("a", "b"), {"x": ("a",)}, {"y": ("b",)}))

    def test_places_hung_on_by_one_tie(self):
        self.assertEqual((HUNG.regions, len(HUNG)), (1, 5))
        self.assertTrue(is_accepted(("a",), {"b": ("a", "c")}, {"w": ("c",)}))

    def test_several_common_ties(self):
        self.assertEqual(DOUBLE.round_of("a"), ("e", "q", "f"))
        self.assertEqual(len(Disc(("r",), {"b": ("a", "b", "c", "r")}, {"w": ("a", "c", "b")})), 4)


class RuleOne(unittest.TestCase):
    def test_a_tie_stands_just_twice(self):
        self.assertFalse(is_accepted(("a",), {}, {"w": ("a", "b")}))
        self.assertFalse(is_accepted(("a", "b"), {}, {"w": ("a",)}))
        self.assertFalse(is_accepted(("a", "b"), {"b": ("a", "b")}, {"w": ("a",)}))
        self.assertFalse(is_accepted(("a",), {"b": ("a", "c"), "d": ("c",)}, {"w": ("c",)}))

    def test_never_twice_in_the_rim(self):
        self.assertFalse(is_accepted(("a", "b", "b"), {}, {"w": ("a",)}))
        self.assertFalse(is_accepted(("a", "a"), {}, {"w": ("a",)}))

    def test_never_twice_in_a_round(self):
        self.assertFalse(is_accepted(("a",), {}, {"w": ("a", "b", "b")}))
        self.assertFalse(is_accepted(("a",), {"w": ("a", "b", "b")}, {}))
        self.assertFalse(is_accepted(("a",), {}, {"w": ("a", "a")}))


class RuleTwo(unittest.TestCase):
    def test_two_places_of_one_colour_have_no_common_tie(self):
        rounds = {"x": ("a", "c"), "y": ("b", "c")}
        self.assertFalse(is_accepted(("a", "b"), rounds, {}))
        self.assertFalse(is_accepted(("a", "b"), {}, rounds))
        self.assertTrue(is_accepted(("a", "b"), {"x": ("a", "c")}, {"y": ("b", "c")}))


class RuleThree(unittest.TestCase):
    def test_all_places_hang_together_with_the_rim(self):
        # The other part walks one region too few, drawn by itself, so rule 4 is kept.
        apart = {"y": ("b", "c", "d")}, {"x": ("a",), "z": ("b", "c", "d")}
        self.assertFalse(is_accepted(("a",), *apart))
        self.assertFalse(is_drawn(("a",), *apart))
        self.assertFalse(is_accepted(("a",), {"y": ("b",)}, {"x": ("a",), "z": ("b",)}))
        self.assertFalse(is_accepted(("a",), {"b": ("c",)}, {"w": ("c",)}))

    def test_a_place_can_be_far_from_the_rim(self):
        black = {"b": ("b", "c"), "d": ("d", "e")}
        self.assertTrue(is_accepted(("a",), black, {"a": ("a", "b"), "c": ("c", "d"), "w": ("e",)}))


class RuleFour(unittest.TestCase):
    def test_one_of_all_rounds_of_a_square_can_be_drawn(self):
        rounds = {"a": ("e", "h", "p"), "b": ("e", "q", "f"), "c": ("f", "r", "g"), "d": ("g", "s", "h")}
        drawn = []
        for turned in itertools.product((False, True), repeat=4):
            some = {place: (ties[0], *ties[:0:-1]) if turn else ties
                    for turn, (place, ties) in zip(turned, rounds.items())}
            if is_accepted(SQUARE.rim, {"b": some["b"], "d": some["d"]}, {"a": some["a"], "c": some["c"]}):
                drawn.append(some)
        self.assertEqual(drawn, [rounds])

    def test_one_of_all_rims_of_a_star_can_be_drawn_but_for_turning(self):
        for disc in (STAR, BLACK):
            drawn = [rim for rim in itertools.permutations("pqr") if is_accepted(rim, disc.black, disc.white)]
            self.assertEqual(drawn, [("p", "q", "r"), ("q", "r", "p"), ("r", "p", "q")])

    def test_rims_of_a_square(self):
        drawn = [rim for rim in itertools.permutations("pqrs") if is_accepted(rim, SQUARE.black, SQUARE.white)]
        self.assertEqual(drawn, [tuple("pqrs"), tuple("qrsp"), tuple("rspq"), tuple("spqr")])

    def test_common_ties_run_in_opposite_orders(self):
        self.assertFalse(is_accepted(("p", "q"), DOUBLE.black, {"a": ("e", "f", "q")}))
        rim, black, white = common_ties(5)
        self.assertFalse(is_accepted(rim, black, {"a": tuple(sorted(white["a"]))}))
        self.assertTrue(is_accepted(rim, black, white))


class RuleFive(unittest.TestCase):
    def test_example_of_the_document(self):
        with self.assertRaises(InvalidDisc):
            Disc.from_lines("rim a", "black x a b c", "white y b", "white z c")

    def test_only_the_pairing_is_missing(self):
        for rim, black, white in (
            (("a",), {"x": ("a", "b", "c")}, {"y": ("b",), "z": ("c",)}),
            (("a",), {"y": ("b",), "z": ("c",)}, {"x": ("a", "b", "c")}),
            (("a",), {"x": ("a", "c"), "u": ("e",), "v": ("f",)}, {"y": ("c", "e", "f")}),
            (("a",), {"t": ("f",), "u": ("d", "e"), "v": ("g",), "x": ("a", "b")}, {"y": ("b", "d", "f"), "z": ("e", "g")}),
        ):
            self.assertTrue(is_drawn(rim, black, white))
            self.assertFalse(some_pairing_exists({**black, **white}))
            self.assertFalse(is_accepted(rim, black, white))

    def test_each_web_that_is_left_of_a_square_with_some_places_hung_on(self):
        rim = ("p", "q", "r")
        rounds = {"a": ("e", "h", "i", "m", "p"), "b": ("e", "j", "n", "q", "f"), "c": ("f", "r", "g"),
                  "d": ("g", "k", "h"), "x": ("i", "l"), "y": ("j",), "z": ("k", "o"), "w": ("l",), "u": ("m",),
                  "v": ("n",), "t": ("o",)}
        judged = []
        for gone in itertools.chain.from_iterable(itertools.combinations("efghijklmno", many) for many in range(12)):
            left = {place: tuple(tie for tie in ties if tie not in gone) for place, ties in rounds.items()}
            left = {place: from_least(ties) for place, ties in left.items() if ties}
            whites = {place: left.pop(place) for place in "acyzwv" if place in left}
            if is_drawn(rim, left, whites):
                exists = some_pairing_exists({**left, **whites})
                self.assertIs(is_accepted(rim, left, whites), exists, gone)
                judged.append(exists)
        self.assertGreater(judged.count(True), 100)
        self.assertGreater(judged.count(False), 100)


class WrongValues(unittest.TestCase):
    def test_for_each_argument(self):
        told = SQUARE.rim, SQUARE.black, SQUARE.white
        for value in (*wrong_values(), (), {}, "pqrs", ["p", "q", "r", "s"], list(SQUARE.black.items())):
            for at in range(3):
                passed = (*told[:at], value, *told[at + 1:])
                with self.assertRaises(InvalidDisc):
                    Disc(*passed)

    def test_within_the_rim(self):
        for value in (*wrong_values(), (), {}, "x", 1):
            self.assertFalse(is_accepted(("p", value, "r"), STAR.black, STAR.white), value)
            self.assertFalse(is_accepted((value,), {"b": ("p",)}, {}), value)

    def test_as_a_round_or_within_one(self):
        for value in (*wrong_values(), (), {}, "p", "pqr", 1, ["p", "q", "r"]):
            self.assertFalse(is_accepted(STAR.rim, {}, {"w": value}), value)
            self.assertFalse(is_accepted(STAR.rim, {"w": value}, {}), value)
            self.assertFalse(is_accepted(STAR.rim, {"w": ("p", "q", value)}, {}), value)

    def test_as_a_place(self):
        for value in (*wrong_values(), (), 1):
            if is_hashable(value):
                self.assertFalse(is_accepted(STAR.rim, {value: ("p", "q", "r")}, {}), value)
                self.assertFalse(is_accepted(LINE.rim, {"b": ("p",)}, {value: ("q",)}), value)


if __name__ == "__main__":
    unittest.main()
