"""[1.3]: fractions."""

import unittest
from fractions import Fraction

from rimtrails.base.words import added, divided, fraction, is_fraction, multiplied
from rimtrails.errors import InvalidNumber, InvalidOperation
from tests.samples import wrong_values

LONGEST = 10 ** 60 - 1
LONG = 10 ** 500 + 1


def told_as_pair(value):
    return value.numerator, value.denominator


class Examples(unittest.TestCase):
    def test_example_of_the_document(self):
        told = [fraction(6, -4), fraction(0, 9), is_fraction((2, 4)), added((1, 2), (1, 3)),
                multiplied((-3, 2), (4, 9)), divided((1, 2), (-3, 4)), divided((0, 1), (5, 1))]
        self.assertEqual(told, [(-3, 2), (0, 1), False, (5, 6), (-2, 3), (-2, 3), (0, 1)])


class IsFraction(unittest.TestCase):
    def test_fractions(self):
        for value in ((0, 1), (1, 1), (-1, 1), (1, 2), (-7, 3), (LONG, 1), (-LONG, 2), (1, LONG), (LONG, LONG - 1)):
            self.assertIs(is_fraction(value), True, value)

    def test_no_fractions(self):
        for value in ((0, 2), (0, 0), (1, 0), (1, -1), (-1, -2), (2, 2), (-2, 4), (2 * LONG, 2), (True, 1), (0, True),
                      (False, 1), (1, 2, 3), (1,), (), [1, 2], {1: 2}, 0, 1, "12", ("1", 2), (1, "2"), (1, None),
                      (1.0, 2), ((1, 2), 1), ([1], 2)):
            self.assertIs(is_fraction(value), False, value)

    def test_wrong_values(self):
        for value in wrong_values():
            self.assertIs(is_fraction(value), False, value)


class Made(unittest.TestCase):
    def test_all_small_values(self):
        for top in range(-12, 13):
            for bottom in range(-12, 13):
                if bottom != 0:
                    told = fraction(top, bottom)
                    self.assertEqual(told, told_as_pair(Fraction(top, bottom)))
                    self.assertIs(is_fraction(told), True)

    def test_sixty_digits(self):
        self.assertEqual(fraction(LONGEST, -LONGEST), (-1, 1))
        self.assertEqual(fraction(-LONGEST, 10 ** 59), (-LONGEST, 10 ** 59))

    def test_sixty_one_digits(self):
        for value in (LONGEST + 1, -LONGEST - 1):
            self.assert_refused(value, fraction, value, 1)
            self.assert_refused(value, fraction, 1, value)

    def test_wrong_values(self):
        for value in (*wrong_values(), (), {}, "1", 1.0, (1, 2)):
            self.assert_refused(value, fraction, value, 1)
            self.assert_refused(value, fraction, 1, value)
            self.assert_refused(value, fraction, value, 0)

    def test_the_first_wrong_one_is_kept(self):
        self.assert_refused(0, fraction, 1, 0)
        self.assert_refused(0, fraction, 0, 0)
        self.assert_refused("one", fraction, "one", "other")

    def assert_refused(self, kept, call, *passed):
        with self.assertRaises(InvalidNumber) as caught:
            call(*passed)
        self.assertIs(caught.exception.value, kept)


class Reckoned(unittest.TestCase):
    def test_all_small_values(self):
        small = sorted({Fraction(top, bottom) for top in range(-4, 5) for bottom in range(1, 5)})
        for one in small:
            for other in small:
                pairs = told_as_pair(one), told_as_pair(other)
                self.assertEqual(added(*pairs), told_as_pair(one + other))
                self.assertEqual(multiplied(*pairs), told_as_pair(one * other))
                if other != 0:
                    self.assertEqual(divided(*pairs), told_as_pair(one / other))

    def test_integers_of_any_length(self):
        one, other = Fraction(LONG, 3), Fraction(-7, LONG + 1)
        pairs = told_as_pair(one), told_as_pair(other)
        self.assertEqual(added(*pairs), told_as_pair(one + other))
        self.assertEqual(multiplied(*pairs), told_as_pair(one * other))
        self.assertEqual(divided(*pairs), told_as_pair(one / other))

    def test_no_fractions(self):
        for call in (added, multiplied, divided):
            for value in (*wrong_values(), (), {}, 0, 1, [1, 2], (2, 2), (0, 2), "12"):
                self.assert_refused(value, call, value, (1, 2))
                self.assert_refused(value, call, (1, 2), value)
                self.assert_refused(value, call, value, "other")
                self.assert_refused(value, call, value, (0, 1))

    def test_divided_by_nothing(self):
        for one in ((0, 1), (1, 2), (LONG, 1)):
            with self.assertRaises(InvalidOperation):
                divided(one, (0, 1))
        self.assert_refused((0, 2), divided, (1, 2), (0, 2))

    def assert_refused(self, kept, call, *passed):
        with self.assertRaises(InvalidNumber) as caught:
            call(*passed)
        self.assertIs(caught.exception.value, kept)


if __name__ == "__main__":
    unittest.main()
