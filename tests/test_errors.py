"""[1.1] and [1.2]: the errors."""

import unittest

from rimtrails import errors
from rimtrails.errors import DiscError, ParseError
from tests.samples import wrong_values

OF_DISC = (
    "InvalidDisc", "InvalidPairing", "InvalidLeaning", "InvalidOrder", "InvalidSet", "InvalidNecklace",
    "InvalidDiagram", "InvalidMove", "InvalidCollection", "InvalidNumbers", "InvalidPoint", "InvalidMatrix",
    "InvalidOperation", "ParseError",
)
OTHERS = {
    "UnknownName": (KeyError, "name"),
    "InvalidNumber": (IndexError, "value"),
    "NothingToUndo": (RuntimeError, "wanted"),
    "TooMany": (OverflowError, "limit"),
    "Refused": (ArithmeticError, "pledge"),
}


def all_errors():
    return {name: getattr(errors, name) for name in ("DiscError", *OF_DISC, *OTHERS)}


class Bases(unittest.TestCase):
    def test_disc_error_is_a_value_error(self):
        self.assertEqual(DiscError.__bases__, (ValueError,))

    def test_errors_of_a_message_and_parse_error_are_directly_derived_from_disc_error(self):
        for name in OF_DISC:
            self.assertEqual(getattr(errors, name).__bases__, (DiscError,), name)

    def test_the_others_are_directly_derived_from_the_told_errors(self):
        for name, (base, _) in OTHERS.items():
            self.assertEqual(getattr(errors, name).__bases__, (base,), name)

    def test_no_error_is_derived_from_another_one_but_disc_error(self):
        for name, one in all_errors().items():
            for other_name, other in all_errors().items():
                if name != other_name and other is not DiscError:
                    self.assertFalse(issubclass(one, other), (name, other_name))

    def test_the_others_are_no_disc_errors_and_no_value_errors(self):
        for name in OTHERS:
            self.assertFalse(issubclass(getattr(errors, name), ValueError), name)

    def test_each_class_is_defined_in_the_module_under_its_name(self):
        for name, one in all_errors().items():
            self.assertEqual((one.__module__, one.__name__), ("rimtrails.errors", name))


class Kept(unittest.TestCase):
    def test_errors_of_a_message_take_one(self):
        for name in ("DiscError", *OF_DISC):
            if name != "ParseError":
                with self.assertRaises(getattr(errors, name)):
                    raise getattr(errors, name)("why")

    def test_parse_error_keeps_its_number(self):
        for number in (0, 7, 10 ** 100, None, *wrong_values()):
            self.assertIs(ParseError(number).number, number)

    def test_the_others_keep_what_they_take(self):
        for name, (_, attribute) in OTHERS.items():
            for kept in (0, "a", (), {}, *wrong_values()):
                error = getattr(errors, name)(kept)
                self.assertIs(getattr(error, attribute), kept)

    def test_they_are_caught_by_their_bases_and_still_keep_it(self):
        for name, (base, attribute) in OTHERS.items():
            with self.assertRaises(base) as caught:
                raise getattr(errors, name)(["kept"])
            self.assertEqual(getattr(caught.exception, attribute), ["kept"])
        with self.assertRaises(DiscError) as caught:
            raise ParseError(None)
        self.assertIsNone(caught.exception.number)


if __name__ == "__main__":
    unittest.main()
