"""[2.2]: what a disc tells of itself, and discs with other names."""

import unittest

from rimtrails.base import discs
from rimtrails.base.discs import Disc, are_same
from rimtrails.base.words import nth_name
from rimtrails.errors import InvalidDisc, InvalidNumber, InvalidOperation, UnknownName
from tests.samples import BLACK, DOUBLE, HUNG, LINE, SQUARE, STAR, common_ties, wrong_values

ALL = (SQUARE, STAR, BLACK, LINE, DOUBLE, HUNG)


def with_other_names(disc, seed):
    """The disc with names that are mixed up in a way that the seed tells."""
    def mixed(names):
        shift = seed % len(names)
        new = [nth_name((index * 7 + seed) % 701) for index in range(len(names))]
        return dict(zip(names, new[shift:] + new[:shift]))
    return disc.renamed(mixed(disc.places), mixed(disc.ties))


class Examples(unittest.TestCase):
    def test_star(self):
        star = Disc.from_lines("white y c a b", "rim a b c")
        told = [star.lines, star.level, star.regions, star.many, star.ends_of("b"), star.inner_end(3), str(star)]
        self.assertEqual(told, [("rim a b c", "white y a b c"), 1, 3, 3, (2, "y"), "y",
                                "disc of 3 rim places, 1 places, 3 ties"])
        names = {"y": "q"}, {"a": "zz", "b": "y", "c": "k"}
        self.assertEqual([are_same(star, star.renamed(*names)), star.renamed(*names).lines],
                         [True, ("rim zz y k", "white q k zz y")])

    def test_square(self):
        square = Disc(("p", "q", "r", "s"), {"b": ("e", "q", "f"), "d": ("g", "s", "h")},
                      {"a": ("e", "h", "p"), "c": ("f", "r", "g")})
        told = [square.level, square.regions, square.ends_of("h"), square.colour("d"), square.round_of("c"),
                len(square), "e" in square, "b" in square]
        self.assertEqual(told, [2, 5, ("d", "a"), "black", ("f", "r", "g"), 8, True, False])
        self.assertEqual(square.named_anew.lines,
                         ("rim a b c d", "white a a e f", "black b b g e", "white c c h g", "black d d f h"))
        self.assertTrue(are_same(square, square.named_anew))
        self.assertEqual(square, SQUARE)


class Properties(unittest.TestCase):
    def test_rim_and_many(self):
        self.assertEqual([disc.rim for disc in ALL], [tuple("pqrs"), tuple("pqr"), tuple("pqr"), *[tuple("pq")] * 3])
        self.assertEqual([disc.many for disc in ALL], [4, 3, 3, 2, 2, 2])

    def test_rounds(self):
        self.assertEqual(HUNG.black, {"b": ("e", "f", "p"), "d": ("g",)})
        self.assertEqual(HUNG.white, {"a": ("f", "g"), "c": ("e",), "y": ("q",)})
        self.assertEqual((STAR.black, STAR.white), ({}, {"w": ("p", "q", "r")}))
        self.assertEqual((LINE.black, LINE.white), ({"b": ("p", "q")}, {}))

    def test_dicts_ascend(self):
        disc = Disc(("p", "q"), {"d": ("g",), "b": ("e", "f", "p")}, {"y": ("q",), "c": ("e",), "a": ("f", "g")})
        self.assertEqual((list(disc.black), list(disc.white)), (["b", "d"], ["a", "c", "y"]))
        self.assertEqual(disc, HUNG)

    def test_places_and_ties(self):
        self.assertEqual((HUNG.places, HUNG.ties), (("a", "b", "c", "d", "y"), tuple("efgpq")))
        self.assertEqual((SQUARE.places, SQUARE.ties), (tuple("abcd"), tuple("efghpqrs")))

    def test_level(self):
        self.assertEqual([disc.level for disc in ALL], [2, 1, 2, 1, 1, 2])
        self.assertEqual(Disc.from_lines("rim a b", "black x a", "black y b").level, 0)
        self.assertEqual(Disc.from_lines("rim a b", "white x a", "white y b").level, 2)

    def test_regions(self):
        self.assertEqual([disc.regions for disc in ALL], [5, 3, 3, 2, 3, 1])

    def test_lines(self):
        self.assertEqual(HUNG.lines, ("rim p q", "white a f g", "black b e f p", "white c e", "black d g", "white y q"))
        self.assertEqual(LINE.lines, ("rim p q", "black b p q"))

    def test_kinds_of_values(self):
        for disc in ALL:
            for told in (disc.rim, disc.places, disc.ties, disc.lines):
                self.assertIs(tuple, type(told))
            for told in (disc.black, disc.white):
                self.assertIs(dict, type(told))
            for told in (disc.many, disc.level, disc.regions):
                self.assertIs(int, type(told))

    def test_they_are_defined_in_the_class_itself_and_are_not_set(self):
        for name in ("rim", "black", "white", "places", "ties", "many", "level", "regions", "lines", "named_anew"):
            self.assertIs(type(vars(Disc)[name]), property, name)
            with self.assertRaises(AttributeError):
                setattr(STAR, name, None)
        self.assertIs(type(vars(Disc)["from_lines"]), classmethod)
        for name in ("colour", "round_of", "ends_of", "inner_end", "renamed", "__contains__", "__len__", "__iter__",
                     "__eq__", "__str__"):
            self.assertIn(name, vars(Disc))
        self.assertEqual((Disc.__module__, are_same.__module__), (discs.__name__, discs.__name__))


class LookedUp(unittest.TestCase):
    def assert_kept(self, error, attribute, value, call):
        with self.assertRaises(error) as caught:
            call(value)
        self.assertIs(getattr(caught.exception, attribute), value)

    def test_colour_and_round(self):
        self.assertEqual([HUNG.colour(place) for place in HUNG.places], ["white", "black", "white", "black", "white"])
        self.assertEqual([HUNG.round_of(place) for place in "abcdy"],
                         [("f", "g"), ("e", "f", "p"), ("e",), ("g",), ("q",)])

    def test_ends(self):
        self.assertEqual([HUNG.ends_of(tie) for tie in HUNG.ties],
                         [("b", "c"), ("b", "a"), ("d", "a"), (1, "b"), (2, "y")])
        self.assertEqual([DOUBLE.ends_of(tie) for tie in DOUBLE.ties], [("b", "a"), ("b", "a"), (1, "b"), (2, "a")])

    def test_inner_end(self):
        self.assertEqual([SQUARE.inner_end(index) for index in (1, 2, 3, 4)], ["a", "b", "c", "d"])
        self.assertEqual([STAR.inner_end(index) for index in (1, 2, 3)], ["w", "w", "w"])

    def test_no_places(self):
        for value in (*wrong_values(), (), {}, "p", "e", "x", "rim", 1, ("a",), ["a"], {"a": "a"}):
            self.assert_kept(UnknownName, "name", value, SQUARE.colour)
            self.assert_kept(UnknownName, "name", value, SQUARE.round_of)

    def test_no_ties(self):
        for value in (*wrong_values(), (), {}, "a", "b", "x", "rim", 1, ("e",), ["e"], {"e": "e"}):
            self.assert_kept(UnknownName, "name", value, SQUARE.ends_of)

    def test_no_rim_places(self):
        for value in (*wrong_values(), (), {}, 0, -1, 5, 9, "1", "p", 1.0, (1,)):
            self.assert_kept(InvalidNumber, "value", value, SQUARE.inner_end)
        self.assert_kept(InvalidNumber, "value", 3, LINE.inner_end)
        self.assert_kept(InvalidNumber, "value", True, LINE.inner_end)


class Renamed(unittest.TestCase):
    def test_rounds_begin_with_the_least_new_name(self):
        ties = {"e": "z", "f": "e", "p": "y", "q": "a"}
        disc = DOUBLE.renamed({"a": "b", "b": "a"}, ties)
        self.assertEqual(disc.lines, ("rim y a", "black a e y z", "white b a e z"))
        self.assertEqual(DOUBLE.lines, ("rim p q", "white a e q f", "black b e f p"))
        self.assertEqual(disc.renamed({"a": "b", "b": "a"}, {new: old for old, new in ties.items()}), DOUBLE)

    def test_names_can_stay(self):
        for disc in ALL:
            same = disc.renamed({place: place for place in disc.places}, {tie: tie for tie in disc.ties})
            self.assertEqual(same, disc)
            self.assertEqual(same.lines, disc.lines)

    def test_no_namings(self):
        places, ties = {"b": "x"}, {"p": "q", "q": "p"}
        for value in (*wrong_values(), (), {}, {"b": "x", "c": "y"}, {"p": "q"}, {"p": "x", "q": "x"}, ties):
            with self.assertRaises(InvalidOperation):
                LINE.renamed(value, ties)
        for value in (*wrong_values(), (), {}, {"p": "q"}, {"p": "x", "q": "x"}, {"p": "x", "q": "Y"}, places,
                      {"p": "a", "q": "b", "r": "c"}, {"p": "a", "q": ["b"]}):
            with self.assertRaises(InvalidOperation):
                LINE.renamed(places, value)

    def test_nothing_that_was_passed_is_changed_or_kept(self):
        places, ties = {"b": "x"}, {"q": "p", "p": "q"}
        disc = LINE.renamed(places, ties)
        self.assertEqual((list(places.items()), list(ties.items())), ([("b", "x")], [("q", "p"), ("p", "q")]))
        places["b"], ties["p"] = "y", "z"
        self.assertEqual(disc.lines, ("rim q p", "black x p q"))


class NamedAnew(unittest.TestCase):
    def test_told_discs(self):
        self.assertEqual(STAR.named_anew.lines, ("rim a b c", "white a a b c"))
        self.assertEqual(DOUBLE.named_anew.lines, ("rim a b", "black a a c d", "white b b d c"))
        self.assertEqual(HUNG.named_anew.lines,
                         ("rim a b", "black a a c d", "white b b", "white c c", "white d d e", "black e e"))

    def test_the_order_of_meeting(self):
        # Places wait in the order of meeting; at n one goes on from behind y, not from the least tie.
        disc = Disc.from_lines("rim z", "black x z c y", "white m c h d", "white n y k a", "black u h i", "black v d",
                               "black s k l", "black t a", "white o i", "white q l")
        self.assertEqual(disc.named_anew.lines, (
            "rim a", "black a a b c", "white b b d e", "white c c f g", "black d d h", "black e e", "black f f i",
            "black g g", "white h h", "white i i"))

    def test_inner_ends_of_the_rim_are_met_first(self):
        disc = Disc.from_lines("rim p q r", "white w p s", "black b q t s", "white v r t")
        self.assertEqual(disc.named_anew.lines, ("rim a b c", "white a a d", "black b b e d", "white c c e"))

    def test_it_does_not_hang_on_names(self):
        for disc in ALL:
            for seed in range(40):
                other = with_other_names(disc, seed)
                self.assertEqual(other.named_anew, disc.named_anew)
                self.assertEqual(other.named_anew.lines, disc.named_anew.lines)
                self.assertTrue(are_same(disc, other))

    def test_it_is_a_disc_with_the_first_names_and_stays(self):
        for disc in (*ALL, Disc(*common_ties(59))):
            anew = disc.named_anew
            self.assertEqual(anew.places, tuple(sorted(nth_name(index) for index in range(len(disc.places)))))
            self.assertEqual(anew.ties, tuple(sorted(nth_name(index) for index in range(len(disc)))))
            self.assertEqual(anew.rim, tuple(nth_name(index) for index in range(disc.many)))
            self.assertEqual(anew.named_anew, anew)
            self.assertEqual((anew.level, anew.regions), (disc.level, disc.regions))


class AreSame(unittest.TestCase):
    def test_colours_and_rim_places_stay(self):
        for at, one in enumerate(ALL):
            for other_at, other in enumerate(ALL):
                self.assertIs(are_same(one, other), at == other_at)
        hung = "rim a b c", "white x a b", "black y c"
        turned = "rim a b c", "white x b c", "black y a"
        self.assertIs(are_same(Disc.from_lines(*hung), Disc.from_lines(*turned)), False)

    def test_common_ties_at_unlike_seats(self):
        one = Disc.from_lines("rim p q", "black b p e f", "white a q f g e", "black d g")
        self.assertIs(are_same(one, one.renamed(dict(zip("abd", "dab")), dict(zip("efgpq", "qpgfe")))), True)

    def test_no_discs(self):
        for value in (*wrong_values(), (), {}, STAR.lines, "white w p q r", 1):
            if not isinstance(value, Disc):
                for passed in ((value, STAR), (STAR, value), (value, value)):
                    with self.assertRaises(InvalidDisc):
                        are_same(*passed)


class Operators(unittest.TestCase):
    def test_in(self):
        self.assertEqual([name in HUNG for name in "abcdefgpqyx"], [False] * 4 + [True] * 5 + [False] * 2)
        for value in (*wrong_values(), (), {}, 1, ["p"], ("p",), {"p": "p"}):
            self.assertIs(value in STAR, False)
            self.assertIs(value not in STAR, True)

    def test_a_tie_with_the_name_of_a_place(self):
        disc = Disc.from_lines("rim a c", "black b a c")
        self.assertEqual(["a" in disc, "b" in disc], [True, False])

    def test_len_and_iteration(self):
        for disc in ALL:
            self.assertEqual(list(disc), sorted(disc.ties))
            self.assertEqual(len(disc), len(disc.ties))
        self.assertEqual([list(LINE), list(DOUBLE), len(LINE)], [["p", "q"], ["e", "f", "p", "q"], 2])

    def test_equality(self):
        for at, one in enumerate(ALL):
            for other_at, other in enumerate(ALL):
                self.assertIs(one == other, at == other_at)
                self.assertIs(one != other, at != other_at)
            self.assertEqual(Disc(one.rim, one.black, one.white), one)
        self.assertNotEqual(STAR, STAR.renamed({"w": "x"}, {"p": "p", "q": "q", "r": "r"}))
        self.assertNotEqual(STAR, STAR.renamed({"w": "w"}, {"p": "p", "q": "q", "r": "s"}))
        self.assertNotEqual(STAR, Disc(STAR.rim, STAR.white, {}))
        ties = {tie: tie for tie in SQUARE.ties}
        self.assertNotEqual(SQUARE, SQUARE.renamed({"a": "a", "b": "x", "c": "c", "d": "d"}, ties))
        self.assertNotEqual(SQUARE, SQUARE.renamed({"a": "x", "b": "b", "c": "c", "d": "d"}, ties))
        self.assertNotEqual(STAR, Disc(("q", "r", "p"), {}, STAR.white))

    def test_equality_with_other_values(self):
        for value in (*wrong_values(), (), {}, BLACK.lines, BLACK.rim, str(BLACK)):
            self.assertIs(BLACK == value, False)
            self.assertIs(BLACK != value, True)
            self.assertIs(value == BLACK, False)

    def test_no_other_operators(self):
        for call in (lambda: STAR < STAR, lambda: STAR + STAR, lambda: STAR[0], lambda: STAR < 1):
            with self.assertRaises(TypeError):
                call()

    def test_text(self):
        self.assertEqual(str(SQUARE), "disc of 4 rim places, 4 places, 8 ties")
        self.assertEqual(str(LINE), "disc of 2 rim places, 1 places, 2 ties")
        self.assertEqual(str(Disc.from_lines("rim a", "white w a")), "disc of 1 rim places, 1 places, 1 ties")


class NothingShared(unittest.TestCase):
    def test_passed_dicts_are_neither_changed_nor_kept(self):
        black, white = {"d": ("g", "s", "h"), "b": ("e", "q", "f")}, {"c": ("f", "r", "g"), "a": ("e", "h", "p")}
        disc = Disc(("p", "q", "r", "s"), black, white)
        self.assertEqual((list(black), list(white)), (["d", "b"], ["c", "a"]))
        black["b"], white["x"] = ("x",), ("y",)
        del white["a"]
        self.assert_square(disc)

    def test_returned_dicts_are_not_kept(self):
        disc = Disc(SQUARE.rim, SQUARE.black, SQUARE.white)
        for told in (disc.black, disc.white):
            told["x"] = ("x",)
            told.update({place: () for place in list(told)})
            told.pop("x")
        disc.black.clear()
        disc.white.clear()
        self.assert_square(disc)
        self.assertIsNot(disc.black, disc.black)

    def assert_square(self, disc):
        self.assertEqual(disc, SQUARE)
        self.assertEqual((disc.lines, disc.level, disc.places), (SQUARE.lines, SQUARE.level, SQUARE.places))
        self.assertEqual([disc.round_of(place) for place in disc.places], [SQUARE.round_of(place) for place in "abcd"])
        self.assertEqual(disc.colour("b"), "black")
        self.assertEqual(disc.ends_of("e"), ("b", "a"))

    def test_equal_calls_return_equal_results(self):
        for disc in ALL:
            self.assertEqual(disc.named_anew, disc.named_anew)
            self.assertEqual(disc.lines, disc.lines)


if __name__ == "__main__":
    unittest.main()
