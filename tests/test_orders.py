"""[6.1] to [6.6]: orders."""

import inspect
import itertools
import math
import unittest

from rimtrails.errors import InvalidNumber, InvalidOperation, InvalidOrder
from rimtrails.order import orders
from rimtrails.order.orders import Order, count_orders, each_knot, each_order, top_order
from tests.refusals import check_arguments, check_refused, near, no_numbers, not_one_of
from tests.samples import LINE, SQUARE, is_hashable, wrong_values

SOME = Order((2, 5, 3, 8))
ALL = [order for many in range(1, 6) for order in each_order(many)]
FEW = [order for many in range(1, 5) for order in each_order(many)]


def are_numbers(value):
    """[6.1], told once more."""
    many = len(value)
    return all(at <= number <= at + many for at, number in enumerate(value, 1)) and \
        not any((one - other) % many == 0 for one, other in itertools.combinations(value, 2))


def all_numbers(many):
    """The numbers of all orders of few rim places, ascending."""
    return [some for some in itertools.product(*(range(at, at + many + 1) for at in range(1, many + 1))) if are_numbers(some)]


def knots_told(order):
    """All knots, by the words of [6.2], looked for far beyond the last rim place."""
    many = order.many
    return [(i, j) for i in range(1, many + 1) for j in range(i + 1, i + 3 * many) if order(i) > order(j)]


def is_accepted(numbers):
    try:
        Order(numbers)
    except InvalidOrder:
        return False
    return True


class Examples(unittest.TestCase):
    def test_properties(self):
        told = [SOME.level, SOME.falling, list(each_knot(SOME)), SOME.size, SOME.ends, SOME.marks, 3 in SOME, SOME(7), SOME(-1)]
        self.assertEqual(told, [2, (2, 4), [(2, 3), (4, 5), (4, 7)], 1, (2, 1, 3, 4), {3: "black", 4: "white"}, True, 7, -1])

    def test_others(self):
        told = [SOME.dual.numbers, SOME.mirrored.numbers, SOME.turned(1).numbers, SOME.turned(-5) == SOME.turned(3),
                Order.of_ends((2, 1, 3, 4), {3: "black", 4: "white"}) == SOME]
        self.assertEqual(told, [(2, 5, 7, 4), (5, 2, 4, 7), (5, 3, 6, 4), True, True])

    def test_all_of_two(self):
        self.assertEqual([order.numbers for order in each_order(2)], [(1, 2), (1, 4), (2, 3), (3, 2), (3, 4)])

    def test_counts_and_exchanges(self):
        told = [count_orders(4), [count_orders(4, level=level) for level in range(5)], top_order(4, 2).numbers,
                Order((4, 3, 6, 5)).starts_exchanged(1).numbers, Order((4, 3, 6, 5)).ends_exchanged(1).numbers, str(SOME)]
        self.assertEqual(told, [65, [1, 15, 33, 15, 1], (3, 4, 5, 6), (3, 4, 6, 5), (4, 3, 5, 6), "order 2 5 3 8"])


class Numbers(unittest.TestCase):
    def test_all_tuples_of_few(self):
        for many in (1, 2, 3):
            for numbers in itertools.product(range(-1, 2 * many + 3), repeat=many):
                self.assertIs(is_accepted(numbers), are_numbers(numbers), numbers)

    def test_the_bounds(self):
        for many in range(1, 9):
            black, white = tuple(range(1, many + 1)), tuple(range(many + 1, 2 * many + 1))
            self.assertEqual((Order(black).numbers, Order(white).numbers), (black, white))
            self.assertFalse(is_accepted((0, *black[1:])))
            self.assertFalse(is_accepted((*white[:-1], 2 * many + 1)))
            self.assertFalse(is_accepted((*black[:-1], -many)))

    def test_none_differ_by_a_multiple(self):
        self.assertFalse(is_accepted((3, 3, 5)))
        self.assertFalse(is_accepted((2, 5, 3)))
        self.assertFalse(is_accepted((4, 2, 4)))
        self.assertTrue(is_accepted((4, 2, 3)))

    def test_no_or_nine_rim_places(self):
        self.assertFalse(is_accepted(()))
        self.assertFalse(is_accepted(tuple(range(1, 10))))
        self.assertTrue(is_accepted(tuple(range(1, 9))))

    def test_wrong_values(self):
        for value in (*wrong_values(), (), {}, 1, [2, 3], "23", (1, True), (True,), (2, "3"), ((2, 3),), SOME, (SOME,)):
            self.assertIs(is_accepted(value), value == (1, 2, 3), value)

    def test_near_values(self):
        for order in FEW[::3]:
            for value in near(order.numbers):
                right = type(value) is tuple and all(type(one) is int for one in value) and 0 < len(value) and are_numbers(value)
                self.assertIs(is_accepted(value), right, value)


class Told(unittest.TestCase):
    def test_f_of_integers(self):
        for order in FEW:
            for at in range(1, order.many + 1):
                self.assertEqual(order(at), order.numbers[at - 1])
                for times in (-10, -1, 1, 2, 10 ** 50):
                    self.assertEqual(order(at + times * order.many), order.numbers[at - 1] + times * order.many)
        self.assertEqual(SOME(10 ** 60 - 1), SOME((10 ** 60 - 1) % 4) + (10 ** 60 - 1) // 4 * 4)

    def test_f_takes_each_integer_once(self):
        for order in FEW:
            values = [order(number) for number in range(-20, 40)]
            self.assertEqual(len(set(values)), 60)
            self.assertTrue(set(range(0, 20)) <= set(values))

    def test_items(self):
        for order in FEW:
            self.assertEqual(tuple(order[at] for at in range(1, order.many + 1)), order.numbers)

    def test_plain_properties(self):
        for order in ALL:
            many = len(order.numbers)
            self.assertEqual((order.many, len(order), tuple(order), list(order)), (many, many, order.numbers, list(order.numbers)))
            self.assertEqual(order.falling, tuple(at for at in range(1, many + 1) if order(at) > many))
            self.assertEqual(order.level, len(order.falling))
            self.assertEqual(order.level * many, sum(order(at) - at for at in range(1, many + 1)))
            self.assertEqual(order.size, order.level * (many - order.level) - order.knots)

    def test_knots(self):
        beyond = 0
        for order in ALL:
            knots = list(each_knot(order))
            self.assertEqual(knots, knots_told(order))
            self.assertEqual(order.knots, len(knots))
            beyond += any(knot[1] > order.many for knot in knots)
        self.assertGreater(beyond, 100)
        self.assertTrue(inspect.isgeneratorfunction(each_knot))

    def test_sizes(self):
        for order in ALL:
            fixed = all(end == at for at, end in enumerate(order.ends, 1))
            self.assertEqual((order.size == 0, order.size >= 0), (fixed, True))

    def test_ends_and_marks(self):
        for order in ALL:
            for at, end in enumerate(order.ends, 1):
                self.assertIn(order(at), (end, end + order.many))
            self.assertEqual(sorted(order.ends), list(range(1, order.many + 1)))
            self.assertEqual(list(order.marks), [at for at, end in enumerate(order.ends, 1) if at == end])
            for at, colour in order.marks.items():
                self.assertEqual(order(at), at if colour == "black" else at + order.many)
            self.assertEqual(Order.of_ends(order.ends, order.marks), order)

    def test_fixed_rim_places(self):
        for order in FEW:
            for value in (*range(-3, 12), *wrong_values(), (), {}, "1", (1,), 10 ** 50):
                told = [at for at in order.marks if type(value) is int and value == at]
                self.assertIs(value in order, len(told) == 1, value)
        self.assertNotIn(True, Order((1,)))
        self.assertIn(1, Order((2,)))

    def test_equal_orders(self):
        for one, other in itertools.product(FEW, repeat=2):
            self.assertIs(one == other, one.numbers == other.numbers)
            self.assertIs(one != other, one.numbers != other.numbers)
        for value in (*wrong_values(), (), {}, SOME.numbers, list(SOME.numbers), str(SOME), 4, LINE):
            self.assertIs(SOME == value, False)
            self.assertIs(SOME != value, True)

    def test_text(self):
        self.assertEqual([str(Order(numbers)) for numbers in ((1,), (2,), (3, 4), (9, 10, 11, 12, 13, 14, 15, 16))],
                         ["order 1", "order 2", "order 3 4", "order 9 10 11 12 13 14 15 16"])

    def test_kinds_of_values(self):
        for told in (SOME.numbers, SOME.ends, SOME.falling):
            self.assertIs(type(told), tuple)
        for told in (SOME.many, SOME.level, SOME.knots, SOME.size):
            self.assertIs(type(told), int)
        self.assertIs(type(SOME.dual), Order)
        self.assertIs(type(SOME.mirrored), Order)

    def test_a_returned_dict_is_free(self):
        order = Order((2, 5, 3, 8))
        marks = order.marks
        marks[3] = "white"
        marks[1] = "black"
        self.assertEqual((order.marks, 1 in order, order.numbers), ({3: "black", 4: "white"}, False, (2, 5, 3, 8)))

    def test_all_is_defined_in_the_class_itself(self):
        for name in ("numbers", "many", "level", "knots", "size", "ends", "marks", "falling", "dual", "mirrored"):
            self.assertIs(type(vars(Order)[name]), property, name)
            with self.assertRaises(AttributeError):
                setattr(SOME, name, None)
        self.assertIs(type(vars(Order)["of_ends"]), classmethod)
        for name in ("turned", "starts_exchanged", "ends_exchanged", "__call__", "__getitem__", "__contains__", "__len__",
                     "__iter__", "__eq__", "__str__"):
            self.assertIn(name, vars(Order))
        for some in (Order, each_knot, each_order, count_orders, top_order):
            self.assertEqual(some.__module__, orders.__name__)


class OfEnds(unittest.TestCase):
    def is_accepted(self, ends, marks):
        try:
            Order.of_ends(ends, marks)
        except InvalidOrder:
            return False
        return True

    def test_all_of_few(self):
        for many in (1, 2, 3):
            for ends in itertools.product(range(0, many + 2), repeat=many):
                for told in itertools.product(("black", "white", None), repeat=many + 2):
                    marks = {at: mark for at, mark in enumerate(told) if mark}
                    right = sorted(ends) == list(range(1, many + 1)) and \
                        set(marks) == {at for at in range(1, many + 1) if ends[at - 1] == at}
                    self.assertIs(self.is_accepted(ends, marks), right, (ends, marks))
                    if right:
                        order = Order.of_ends(ends, marks)
                        self.assertEqual((order.ends, order.marks), (ends, marks))

    def test_marks_that_do_not_go_with_the_ends(self):
        for ends, marks in (((2, 1), {1: "black"}), ((1, 2), {1: "black"}), ((1, 2), {}), ((1,), {2: "white"}),
                            ((1,), {1: "red"}), ((1,), {1: None}), ((1,), {True: "black"}), ((True,), {1: "black"}),
                            ((1,), {"1": "black"}), ((1,), ["black"]), ((1,), (("1", "black"),)), ([1], {1: "black"}),
                            ((), {}), (tuple(range(1, 10)), {at: "black" for at in range(1, 10)}), ((1, 1), {1: "black"}),
                            ((0,), {}), ((2,), {}), ((1, 3), {1: "black"})):
            self.assertFalse(self.is_accepted(ends, marks), (ends, marks))
        self.assertTrue(self.is_accepted((1,), {1: "white"}))
        self.assertTrue(self.is_accepted(tuple(range(1, 9)), {at: "white" for at in range(1, 9)}))

    def test_wrong_values(self):
        for value in (*wrong_values(), (), 1, "ab"):
            self.assertFalse(self.is_accepted(value, {}))
            self.assertFalse(self.is_accepted((1,), value))
            self.assertFalse(self.is_accepted((1,), {1: value}))
            self.assertIs(self.is_accepted((2, value), {}), value == 1 and value is not True)
            if is_hashable(value) and value != 1:
                self.assertFalse(self.is_accepted((1,), {1: "black", value: "black"}))

    def test_what_is_passed_stays_as_it_was(self):
        marks = {4: "white", 3: "black"}
        order = Order.of_ends((2, 1, 3, 4), marks)
        self.assertEqual(list(marks.items()), [(4, "white"), (3, "black")])
        marks[3] = "white"
        self.assertEqual(order, SOME)


class Others(unittest.TestCase):
    def test_dual(self):
        for order in ALL:
            many, dual = order.many, order.dual
            for j in range(-many, 2 * many):
                self.assertEqual(dual(order(j)), j + many)
            self.assertEqual((dual.dual, dual.size, dual.level), (order, order.size, many - order.level))

    def test_mirrored(self):
        for order in ALL:
            many, mirrored = order.many, order.mirrored
            for j in range(-many, 2 * many):
                self.assertEqual(mirrored(many + 1 - order(j)), many + 1 - j)
            self.assertEqual((mirrored.mirrored, mirrored.size, mirrored.level), (order, order.size, order.level))

    def test_turned(self):
        for order in FEW:
            many = order.many
            for by in (*range(-2 * many, 2 * many + 1), 10 ** 59, -10 ** 59):
                turned = order.turned(by)
                for j in range(-many, 2 * many):
                    self.assertEqual(turned(j + by), order(j) + by)
                self.assertEqual((turned.size, turned.level), (order.size, order.level))
                self.assertEqual(turned, order.turned(by % many))
            self.assertEqual(order.turned(0), order)
        check_arguments(self, SOME.turned, (1,), [not_one_of([0, 1, 2, -1], InvalidNumber)])


class Exchanges(unittest.TestCase):
    def test_starts(self):
        wrong = 0
        for order in ALL:
            for index in range(1, order.many):
                numbers = list(order.numbers)
                numbers[index - 1:index + 1] = numbers[index], numbers[index - 1]
                if are_numbers(numbers):
                    other = order.starts_exchanged(index)
                    self.assertEqual(other.numbers, tuple(numbers))
                    more = -1 if order(index) > order(index + 1) else 1
                    self.assertEqual((other.level, other.knots), (order.level, order.knots + more))
                else:
                    wrong += 1
                    check_refused(self, InvalidOperation, None, order.starts_exchanged, index)
        self.assertGreater(wrong, 100)

    def test_ends(self):
        wrong = 0
        for order in ALL:
            many = order.many
            for index in range(1, many):
                numbers = []
                for number in order.numbers:
                    by = {0: 1, 1: -1}.get((number - index) % many, 0) if many > 2 else (1 if (number - index) % 2 == 0 else -1)
                    numbers.append(number + by)
                if are_numbers(numbers):
                    other = order.ends_exchanged(index)
                    self.assertEqual(other.numbers, tuple(numbers))
                    places = {order(j): j for j in range(-many, 3 * many)}
                    more = -1 if places[index + 1] < places[index] else 1
                    self.assertEqual((other.level, other.knots), (order.level, order.knots + more))
                else:
                    wrong += 1
                    check_refused(self, InvalidOperation, None, order.ends_exchanged, index)
        self.assertGreater(wrong, 100)

    def test_indexes(self):
        for exchanged in (SOME.starts_exchanged, SOME.ends_exchanged):
            check_arguments(self, exchanged, (1,), [no_numbers(1, 3)])
        for exchanged in (Order((1,)).starts_exchanged, Order((2,)).ends_exchanged):
            for value in (0, 1, 2):
                check_refused(self, InvalidNumber, value, exchanged, value)

    def test_the_order_stays_as_it_was(self):
        order = Order((4, 3, 6, 5))
        order.starts_exchanged(1)
        order.ends_exchanged(1)
        order.turned(1)
        self.assertEqual(order.numbers, (4, 3, 6, 5))


class All(unittest.TestCase):
    def test_they_come_ascending(self):
        for many in (1, 2, 3, 4):
            told = all_numbers(many)
            self.assertEqual([order.numbers for order in each_order(many)], told)
            for level in range(many + 1):
                found = [order.numbers for order in each_order(many, level=level)]
                self.assertEqual(found, [numbers for numbers in told if Order(numbers).level == level])
                self.assertEqual(count_orders(many, level=level), len(found))
            self.assertEqual([order.numbers for order in each_order(many, level=None)], told)

    def test_numbers_of_orders(self):
        for many in range(1, 9):
            told = sum(math.factorial(many) // math.factorial(at) for at in range(many + 1))
            self.assertEqual((count_orders(many), count_orders(many, level=None)), (told, told))
            self.assertEqual(sum(count_orders(many, level=level) for level in range(many + 1)), told)
        self.assertEqual(sum(1 for _ in each_order(6)), count_orders(6))
        self.assertEqual(sum(1 for _ in each_order(7, level=2)), count_orders(7, level=2))

    def test_the_first_ones_of_eight(self):
        self.assertTrue(inspect.isgeneratorfunction(each_order))
        self.assertEqual([order.numbers for order in itertools.islice(each_order(8), 3)],
                         [(1, 2, 3, 4, 5, 6, 7, 8), (1, 2, 3, 4, 5, 6, 7, 16), (1, 2, 3, 4, 5, 6, 8, 15)])
        self.assertEqual(next(each_order(8, level=8)).numbers, tuple(range(9, 17)))
        self.assertEqual(next(each_order(8, level=7)).numbers, (1, *range(10, 17)))
        self.assertEqual([order.numbers for order in each_order(8, level=0)], [tuple(range(1, 9))])

    def test_top(self):
        for many in range(1, 9):
            for level in range(many + 1):
                top = top_order(many, level)
                self.assertEqual(top.numbers, tuple(range(level + 1, level + many + 1)))
                self.assertEqual((top.level, top.knots, top.size), (level, 0, level * (many - level)))
        for order in ALL:
            alone = order == top_order(order.many, order.level)
            self.assertEqual(order.size == order.level * (order.many - order.level), alone)

    def test_wrong_arguments(self):
        levels = no_numbers(0, 4)
        levels = levels[0], [value for value in levels[1] if value is not None]
        for function in (each_order, count_orders):
            check_arguments(self, function, (4,), [no_numbers(1, 8)], [("level", *levels)])
            with self.assertRaises(TypeError):
                function(4, 2)
        check_arguments(self, top_order, (4, 2), [no_numbers(1, 8), no_numbers(0, 4)])
        check_arguments(self, each_knot, (SOME,), [not_one_of((), InvalidOrder)])
        check_refused(self, InvalidOrder, None, each_knot, (2, 5, 3, 8))

    def test_wrong_places_and_numbers(self):
        check_arguments(self, lambda value: SOME[value], (1,), [no_numbers(1, 4)])
        check_arguments(self, SOME, (1,), [not_one_of([0, 1, 2, -1], InvalidNumber)])
        check_refused(self, InvalidNumber, SQUARE, SOME, SQUARE)


if __name__ == "__main__":
    unittest.main()
