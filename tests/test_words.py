"""[0.1], [0.5], [0.8] and stage 1: integers, names and namings."""

import unittest

from rimtrails.base import words
from rimtrails.base.words import are_names, is_count, is_integer, is_name, is_naming, nth_name
from rimtrails.errors import InvalidNumber, InvalidOperation
from tests.samples import SQUARE, wrong_values

LONGEST = 10 ** 60 - 1


class Examples(unittest.TestCase):
    def test_example_of_the_document(self):
        told = [is_integer(-7), is_count(True), is_name("ab1"), are_names(("b", "a", "b")),
                is_naming(("a", "b"), {"a": "b", "b": "a"}), nth_name(25), nth_name(26), nth_name(53)]
        self.assertEqual(told, [True, False, False, True, True, "z", "aa", "bb"])

    def test_constants(self):
        self.assertEqual((words.MAX_LETTERS, words.MAX_FIGURES), (8, 60))


class Integers(unittest.TestCase):
    def test_integers_of_up_to_sixty_digits(self):
        for value in (0, 1, -1, 10 ** 59, LONGEST, -LONGEST):
            self.assertIs(is_integer(value), True)
            self.assertIs(is_count(value), value >= 0)

    def test_integers_of_sixty_one_digits_and_more(self):
        for value in (LONGEST + 1, -LONGEST - 1, 10 ** 99, 10 ** 5000, -10 ** 5000):
            self.assertIs(is_integer(value), False)
            self.assertIs(is_count(value), False)

    def test_the_sign_counts_as_no_digit(self):
        self.assertIs(is_integer(-int("9" * words.MAX_FIGURES)), True)
        self.assertIs(is_integer(int("1" + "0" * words.MAX_FIGURES)), False)

    def test_wrong_values(self):
        for value in (*wrong_values(), (), {}, "1", 1.0, (1,)):
            self.assertIs(is_integer(value), False, value)
            self.assertIs(is_count(value), False, value)


class Names(unittest.TestCase):
    def test_names_of_one_to_eight_letters(self):
        for value in ("a", "z", "az", "rim", "abcdefgh", "z" * 8):
            self.assertIs(is_name(value), True)

    def test_lengths_beyond(self):
        for value in ("", "abcdefghi", "a" * 4000):
            self.assertIs(is_name(value), False)

    def test_each_printable_sign_alone_and_within(self):
        for number in [10, *range(32, 127)]:
            sign = chr(number)
            is_letter = "a" <= sign <= "z"
            for value in (sign, "a" + sign, sign + "a", "ab" + sign + "cd"):
                self.assertIs(is_name(value), is_letter, value)

    def test_letters_beyond_z(self):
        for value in ("\u00e4", "\u00df", "\u03b1", "a\u0430"):
            self.assertIs(is_name(value), False)

    def test_wrong_values(self):
        for value in (*wrong_values(), (), {}, 1):
            self.assertIs(is_name(value), False, value)

    def test_tuples_of_names(self):
        for value in ((), ("a",), ("b", "a", "b"), ("abcdefgh",) * 100):
            self.assertIs(are_names(value), True)

    def test_no_tuples_of_names(self):
        for value in (*wrong_values(), {}, 1, "a", "abc", ["a", "b"], {"a": "b"}, ("a", "b", "abcdefghi"), ("a", ("b",))):
            self.assertIs(are_names(value), False, value)


class Namings(unittest.TestCase):
    def test_namings(self):
        for names, value in (
            ((), {}),
            (("a",), {"a": "a"}),
            (("a", "b"), {"b": "a", "a": "b"}),
            (("a", "b", "a"), {"a": "x", "b": "y"}),
            (("abcdefgh",), {"abcdefgh": "hgfedcba"}),
        ):
            self.assertIs(is_naming(names, value), True, (names, value))

    def test_no_namings(self):
        for value in (
            {}, {"a": "b"}, {"a": "x", "b": "y", "c": "z"}, {"a": "x", "c": "y"}, {"a": "x", "b": "x"},
            {"a": "a", "b": "a"}, {"a": "x", "b": "abcdefghi"}, {"a": "x", "b": ""}, {"a": "x", "b": "Y"},
            {"a": "x", "b": 1}, {"a": "x", "b": None}, {"a": "x", "b": ["y"]}, {"a": "x", "b": ("y",)},
            {"a": {}, "b": {}}, {"a": True, "b": False}, {"a": "x", None: "y"}, {"a": "x", ("b",): "y"},
            (("a", "x"), ("b", "y")), [("a", "x"), ("b", "y")], ("a", "b"), SQUARE,
        ):
            self.assertIs(is_naming(("a", "b"), value), False, value)

    def test_wrong_values(self):
        for value in wrong_values():
            self.assertIs(is_naming(("x", "y"), value), False, value)
            self.assertIs(is_naming(("a",), value), value == {"a": "b"}, value)
            self.assertIs(is_naming((), value), False, value)

    def test_names_that_are_none(self):
        for names in (*wrong_values(), {}, "ab", ["a", "b"], {"a": "a", "b": "b"}):
            for value in ({"a": "b", "b": "a"}, {}, None, names):
                with self.assertRaises(InvalidOperation):
                    is_naming(names, value)

    def test_nothing_that_was_passed_is_changed(self):
        value = {"b": "a", "a": "b"}
        is_naming(("a", "b"), value)
        self.assertEqual(list(value.items()), [("b", "a"), ("a", "b")])


class NthName(unittest.TestCase):
    def test_edges(self):
        told = [nth_name(index) for index in (0, 1, 24, 25, 26, 27, 51, 52, 700, 701)]
        self.assertEqual(told, ["a", "b", "y", "z", "aa", "ab", "az", "ba", "zy", "zz"])

    def test_all_in_their_order(self):
        letters = "abcdefghijklmnopqrstuvwxyz"
        wanted = list(letters) + [first + second for first in letters for second in letters]
        self.assertEqual([nth_name(index) for index in range(702)], wanted)

    def test_wrong_values(self):
        for value in (*wrong_values(), -1, 702, 703, (), {}, "0", "a", 0.0, (0,)):
            with self.assertRaises(InvalidNumber) as caught:
                nth_name(value)
            self.assertIs(caught.exception.value, value)


if __name__ == "__main__":
    unittest.main()
