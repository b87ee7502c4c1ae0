"""[2.2]: discs that are told by lines."""

import itertools
import unittest

from rimtrails.base.discs import Disc
from rimtrails.errors import InvalidDisc, ParseError
from tests.samples import DOUBLE, HUNG, SQUARE, STAR, wrong_values

LINES = ("rim p q", "black b p e f", "white a q f e")


class Told(unittest.TestCase):
    def test_lines_in_any_order(self):
        for lines in itertools.permutations(LINES):
            self.assertEqual(Disc.from_lines(*lines), DOUBLE)

    def test_rounds_from_any_tie_on(self):
        for one in ("p e f", "e f p", "f p e"):
            for other in ("q f e", "f e q", "e q f"):
                self.assertEqual(Disc.from_lines("rim p q", "black b " + one, "white a " + other), DOUBLE)

    def test_the_rim_is_told_from_its_first_place_on(self):
        self.assertEqual(Disc.from_lines("white w p q r", "rim q r p").rim, ("q", "r", "p"))
        self.assertNotEqual(Disc.from_lines("white w p q r", "rim q r p"), STAR)

    def test_each_disc_is_told_by_its_lines(self):
        for disc in (SQUARE, STAR, DOUBLE, HUNG):
            self.assertEqual(Disc.from_lines(*disc.lines), disc)
            self.assertEqual(Disc.from_lines(*disc.lines).lines, disc.lines)

    def test_words_can_be_names(self):
        disc = Disc.from_lines("black rim rim black", "rim rim white", "white black white black")
        self.assertEqual(disc.lines, ("rim rim white", "white black black white", "black rim black rim"))

    def test_equal_to_a_disc_of_tuples(self):
        self.assertEqual(Disc(("p", "q", "r"), {}, {"w": ("p", "q", "r")}), STAR)
        self.assertEqual(Disc(("p", "q"), {"b": ("e", "f", "p")}, {"a": ("e", "q", "f")}), DOUBLE)


class NoLines(unittest.TestCase):
    def assert_index(self, index, *lines):
        with self.assertRaises(ParseError) as caught:
            Disc.from_lines(*lines)
        self.assertEqual(caught.exception.number, index)

    def test_each_kind_of_value_that_is_no_line(self):
        for value in (
            "", " ", "rim", "rim ", "black", "white", "black b", "white w", "black b ", "white  w p", "rim  p q",
            "rim p  q", " rim p q", "rim p q ", "rim p q\n", "rim\tp q", "rim p,q", "Rim p q", "RIM p q", "rims p q",
            "grey b p q", "p q", "b p q", "black B p q", "black b P q", "black b1 p q", "black b p 1", "rim p -",
            "black abcdefghi p q", "black b p abcdefghi", "rim p abcdefghi", "white w\np", "rim p q\nwhite w p q",
            ("rim", "p", "q"), ["rim p q"], {"rim": "p q"}, None, 1, True, STAR, STAR.lines,
        ):
            self.assert_index(0, value)
            self.assert_index(0, value, *LINES)
            self.assert_index(2, LINES[0], LINES[1], value, LINES[2])
            self.assert_index(3, *LINES, value)

    def test_wrong_values(self):
        for value in (*wrong_values(), (), {}):
            self.assert_index(0, value)
            self.assert_index(3, *LINES, value)

    def test_a_second_line_of_the_rim(self):
        self.assert_index(3, *LINES, "rim p q")
        self.assert_index(1, "rim p q", "rim x", *LINES[1:])

    def test_a_second_line_of_a_place_of_whichever_colour(self):
        for word in ("black", "white"):
            self.assert_index(3, *LINES, word + " b p e f")
            self.assert_index(3, *LINES, word + " a x")
            self.assert_index(1, "black b p", word + " b q", "rim p q")

    def test_the_first_one_is_kept(self):
        self.assert_index(1, "rim p q", "no line", "rim p q", None)
        self.assert_index(1, "rim p q", "rim p q", "no line")
        self.assert_index(2, *LINES[:2], LINES[1], None)

    def test_before_it_is_asked_whether_it_is_a_disc(self):
        self.assert_index(2, "rim p p", "black b x y z", "no line")

    def test_no_disc(self):
        for lines in (
            (), ("black b p",), ("black b p e f", "white a q f e"), ("rim p q",), ("rim p", "black b q"),
            ("rim p p", "black b p"), ("rim p q", "black b p q p"), ("rim p q", "black b p e f", "white a q e f"),
            ("rim a b c d e f g h i", "white w a b c d e f g h i"),
        ):
            with self.assertRaises(InvalidDisc):
                Disc.from_lines(*lines)

    def test_example_of_the_document(self):
        with self.assertRaises(InvalidDisc):
            Disc.from_lines("rim a", "black x a b c", "white y b", "white z c")


if __name__ == "__main__":
    unittest.main()
