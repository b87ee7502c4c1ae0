"""[16.1] to [16.4]: orders below others, and ties that lead to them."""

import itertools
import unittest

from rimtrails.base.discs import Disc
from rimtrails.build.bridges import disc_of
from rimtrails.errors import InvalidDisc, InvalidOperation, InvalidOrder, TooMany
from rimtrails.order.necklaces import necklace_of, order_of, sets_of
from rimtrails.order.orders import Order, each_order, top_order
from rimtrails.part import borders
from rimtrails.part.borders import (covers_above, covers_below, is_below, is_ties_for, orders_between, set_against,
                                    ties_for, way_down)
from rimtrails.thin.faults import is_thin, left_out
from tests.many_discs import discs_by_chance, grid, orders_by_chance, thin_by_chance
from tests.refusals import check_arguments, check_judge, check_refused, no_discs, no_orders
from tests.samples import DOUBLE, HUNG, LINE, SQUARE, STAR, wrong_values

STARS, GONE = Order((2, 3, 4)), Order((3, 2, 4))
FEW = [order for many in range(1, 5) for order in each_order(many)]
FOUR = list(each_order(4))
SETS = {order.numbers: set(sets_of(order)) for order in FEW}
FIVE = list(each_order(5, level=2))
SETS.update({order.numbers: set(sets_of(order)) for order in FIVE})
LEAST = next(order for order in each_order(8, level=4) if order.size == 0)


def is_below_told(one, other):
    """By the let sets."""
    return one.many == other.many and one.level == other.level and SETS[one.numbers] <= SETS[other.numbers]


def seats(many, start, places):
    return sorted((place - start) % many for place in places)


def is_below_by_necklaces(one, other):
    """By the necklaces, in the words of [7.1] and [16.1]."""
    if one.many != other.many or one.level != other.level:
        return False
    for start, own, wanted in zip(range(1, one.many + 1), necklace_of(one), necklace_of(other)):
        if any(low < high for low, high in zip(seats(one.many, start, own), seats(one.many, start, wanted))):
            return False
    return True


def covers_told(order, orders):
    """The orders directly below, by the words of [16.2]."""
    return tuple(one for one in orders if is_below_told(one, order) and one.size == order.size - 1)


class Examples(unittest.TestCase):
    def test_below(self):
        told = [is_below(GONE, STARS), is_below(STARS, GONE), is_below(STARS, STARS), set_against(STARS, GONE), set_against(GONE, STARS),
                is_below(Order((1, 2)), Order((2, 3)))]
        self.assertEqual(told, [True, False, True, (2,), None, False])

    def test_directly_below(self):
        self.assertEqual([one.numbers for one in covers_below(STARS)], [(1, 3, 5), (2, 4, 3), (3, 2, 4)])
        told = [len(covers_below(Order((3, 4, 5, 6)))), len(covers_above(Order((4, 2, 3)))), covers_above(GONE) == (STARS,),
                covers_below(Order((4, 2, 3)))]
        self.assertEqual(told, [4, 2, True, ()])

    def test_ways_and_between(self):
        told = [len(way_down(STARS, Order((4, 2, 3)))), way_down(GONE, STARS), len(orders_between(Order((4, 2, 3)), STARS)),
                len(orders_between(GONE, GONE))]
        self.assertEqual(told, [3, None, 4, 1])

    def test_ties(self):
        less = Order((4, 3, 5, 6))
        told = [ties_for(STAR, GONE), ties_for(SQUARE, less), is_ties_for(SQUARE, less, ("g",)), ties_for(STAR, Order((3, 4, 5))),
                is_ties_for(DOUBLE, Order((2, 3)), ("f",))]
        self.assertEqual(told, [("q",), ("e",), False, None, True])


class Below(unittest.TestCase):
    def test_by_let_sets_and_by_necklaces(self):
        found = set()
        for one, other in itertools.product(FEW, repeat=2):
            told = is_below_told(one, other)
            self.assertIs(is_below(one, other), told, (one.numbers, other.numbers))
            self.assertIs(is_below_by_necklaces(one, other), told)
            found.add(told)
            if one.many == other.many:
                against = set_against(one, other)
                rest = SETS[one.numbers] - SETS[other.numbers]
                self.assertTrue(against in rest if rest else against is None)
            else:
                check_refused(self, InvalidOperation, None, set_against, one, other)
        self.assertEqual(found, {True, False})

    def test_of_five_rim_places(self):
        for one, other in itertools.product(FIVE[::6], FIVE[::5]):
            self.assertIs(is_below(one, other), is_below_told(one, other))

    def test_of_unlike_levels(self):
        self.assertEqual([is_below(Order((1, 2)), Order((3, 4))), set_against(Order((1, 2)), Order((3, 4)))], [False, ()])

    def test_the_top_order_is_above_all_of_its_level(self):
        for order in [*FEW, *orders_by_chance(8, 20)]:
            self.assertIs(is_below(order, top_order(order.many, order.level)), True)


class Covers(unittest.TestCase):
    def test_by_force(self):
        for orders in (*[list(each_order(many)) for many in range(1, 5)], FIVE):
            below = {order.numbers: covers_told(order, orders) for order in orders}
            for order in orders:
                self.assertEqual(covers_below(order), below[order.numbers], order.numbers)
                above = tuple(one for one in orders if order in below[one.numbers])
                self.assertEqual(covers_above(order), above, order.numbers)

    def test_there_and_back(self):
        for order in [*orders_by_chance(6, 20), *orders_by_chance(8, 10), top_order(8, 4)]:
            for below in covers_below(order):
                self.assertEqual(below.size, order.size - 1)
                self.assertIs(is_below(below, order), True)
                self.assertIn(order, covers_above(below))
            for above in covers_above(order):
                self.assertIn(order, covers_below(above))
            for found in (covers_below(order), covers_above(order)):
                numbers = [one.numbers for one in found]
                self.assertEqual(numbers, sorted(set(numbers)))

    def test_ends_of_the_row(self):
        self.assertEqual((covers_below(LEAST), covers_above(top_order(8, 4))), ((), ()))

    def test_below_is_below_one_that_is_directly_below(self):
        for one, other in itertools.product(FEW, repeat=2):
            if is_below_told(one, other) and one != other:
                self.assertTrue(any(is_below(one, lower) for lower in covers_below(other)))


class Ways(unittest.TestCase):
    def check_way(self, one, other):
        way = way_down(one, other)
        self.assertEqual((way[0], way[-1], len(way)), (one, other, one.size - other.size + 1))
        for higher, lower in itertools.pairwise(way):
            self.assertIn(lower, covers_below(higher))

    def test_by_force(self):
        for one, other in itertools.product(FEW, repeat=2):
            if is_below_told(other, one):
                self.check_way(one, other)
            else:
                self.assertIsNone(way_down(one, other))
        self.assertEqual(way_down(STARS, STARS), (STARS,))

    def test_of_eight_rim_places(self):
        self.check_way(top_order(8, 4), LEAST)
        for order in orders_by_chance(8, 8):
            self.check_way(top_order(8, order.level), order)


class Between(unittest.TestCase):
    def test_by_force(self):
        for one, other in itertools.product(FOUR, FOUR):
            told = tuple(order for order in FOUR if is_below_told(one, order) and is_below_told(order, other))
            found = orders_between(one, other)
            self.assertEqual(found, told if is_below_told(one, other) else ())
            if found and one != other:
                even = sum(1 for order in found if order.size % 2 == 0)
                self.assertEqual(2 * even, len(found))
                if other.size - one.size == 2:
                    self.assertEqual(len(found), 4)

    def test_of_unlike_numbers_of_rim_places(self):
        self.assertEqual(orders_between(Order((1, 2)), Order((1,))), ())

    def test_all_below_an_order(self):
        for order in FOUR:
            sizes = [one.size % 2 for one in FOUR if is_below_told(one, order)]
            self.assertEqual(sizes.count(0) - sizes.count(1), 1)

    def test_many(self):
        top = top_order(6, 3)
        least = next(order for order in each_order(6, level=3) if order.size == 0)
        told = tuple(order for order in each_order(6, level=3) if is_below(least, order))
        self.assertEqual(orders_between(least, top), told)
        self.assertGreater(len(told), 200)

    def test_too_many(self):
        with self.assertRaises(TooMany) as caught:
            orders_between(LEAST, top_order(8, 4))
        self.assertEqual(caught.exception.limit, 1000)
        self.assertEqual(orders_between(top_order(8, 4), LEAST), ())

    def test_just_not_too_many(self):
        found = set()
        for order in covers_chain(LEAST):
            try:
                found.add(len(orders_between(LEAST, order)))
            except TooMany:
                found.add(None)
        self.assertIn(None, found)
        self.assertTrue(max(many for many in found if many is not None) <= 1000)


def covers_chain(order):
    """Orders from the told one up, each directly above the one before it."""
    row = [order]
    while covers_above(row[-1]):
        row.append(covers_above(row[-1])[0])
    return row


class Ties(unittest.TestCase):
    def below(self, order):
        if order.many < 5:
            return [one for one in FEW if is_below_told(one, order)], [one for one in FEW if not is_below_told(one, order)]
        found = [one for one in orders_by_chance(order.many, 60) if one.level == order.level]
        return [one for one in found if is_below(one, order)], [one for one in found if not is_below(one, order)]

    def test_for_each_order_below_and_for_no_others(self):
        done = set()
        for disc in discs_by_chance(120)[::2]:
            below, others = self.below(order_of(disc))
            for order in below[::3]:
                ties = ties_for(disc, order)
                self.assertEqual(order_of(left_out(disc, ties)), order, (disc.lines, order.numbers))
                self.assertIs(is_ties_for(disc, order, ties), True)
                done.add((is_thin(disc), ties == ()))
            for order in others[::5]:
                self.assertIsNone(ties_for(disc, order))
                self.assertIs(is_ties_for(disc, order, ()), False)
        self.assertEqual(done, {(True, True), (True, False), (False, False)})

    def test_of_thin_discs_of_more_rim_places(self):
        for order in [*orders_by_chance(6, 5), top_order(6, 3), top_order(8, 4)]:
            disc = thin_by_chance(order, 1)
            for lower in way_down(order, lowest(order)):
                ties = ties_for(disc, lower)
                self.assertEqual(order_of(left_out(disc, ties)), lower)

    def test_a_single_tie_for_those_directly_below_the_order_of_a_thin_disc(self):
        for order in [*FEW, *orders_by_chance(6, 6)]:
            disc = thin_by_chance(order, 2)
            for lower in covers_below(order):
                self.assertTrue(any(is_ties_for(disc, lower, (tie,)) for tie in disc.ties), (disc.lines, lower.numbers))

    def test_large_discs(self):
        disc = grid(5, 6, [0, 2, 5, 8, 10, 13, 16, 19])
        order = order_of(disc)
        for lower in way_down(order, lowest(order))[::3]:
            self.assertIs(is_ties_for(disc, lower, ties_for(disc, lower)), True)

    def test_judged_by_force(self):
        orders = [order for order in FEW if order.many < 4]
        for disc in (LINE, DOUBLE, STAR, HUNG, disc_of(Order((2, 4, 3)))):
            told = {}
            for size in range(len(disc) + 1):
                for ties in itertools.combinations(disc.ties, size):
                    try:
                        told.setdefault(order_of(left_out(disc, ties)).numbers, []).append(ties)
                    except InvalidOperation:
                        continue
            for order in orders:
                right = told.get(order.numbers, [])
                check_judge(self, lambda value, disc=disc, order=order: is_ties_for(disc, order, value), right)
                self.assertEqual(ties_for(disc, order) in right, bool(right))
                self.assertEqual(bool(right), is_below(order, order_of(disc)))

    def test_other_numbers_of_rim_places(self):
        for order in (Order((1,)), Order((2, 3, 4))):
            self.assertIsNone(ties_for(LINE, order))
            self.assertIs(is_ties_for(LINE, order, ()), False)

    def test_no_ties_for_its_own_order(self):
        self.assertEqual(ties_for(SQUARE, Order((3, 4, 5, 6))), ())
        self.assertIs(is_ties_for(DOUBLE, Order((2, 3)), ()), True)
        self.assertEqual(len(ties_for(DOUBLE, Order((2, 3)))), 1)


def lowest(order):
    """Some order below that has size 0."""
    while order.size > 0:
        order = covers_below(order)[0]
    return order


class WrongArguments(unittest.TestCase):
    def test_of_each_function(self):
        for function in (is_below, set_against, way_down, orders_between):
            check_arguments(self, function, (GONE, STARS), [no_orders(), no_orders()])
        for function in (covers_below, covers_above):
            check_arguments(self, function, (STARS,), [no_orders()])
        check_arguments(self, ties_for, (STAR, STARS), [no_discs(), no_orders()])
        check_arguments(self, is_ties_for, (STAR, STARS, ()), [no_discs(), no_orders()])

    def test_which_error_comes_first(self):
        check_refused(self, InvalidOrder, None, set_against, STARS, None)
        check_refused(self, InvalidOrder, None, orders_between, STARS, SQUARE)
        check_refused(self, InvalidDisc, None, ties_for, STARS, STAR)
        check_refused(self, InvalidOrder, None, ties_for, STAR, STAR)

    def test_values_of_other_kinds(self):
        for value in (*wrong_values(), {}, 1, "q", ["q"], ("q", "q"), ("x",)):
            self.assertIs(is_ties_for(STAR, GONE, value), False, value)
        self.assertIs(is_ties_for(STAR, GONE, ("q",)), True)
        self.assertIsInstance(ties_for(Disc.from_lines("rim p", "white w p"), Order((2,))), tuple)

    def test_the_functions_are_defined_in_their_module(self):
        for function in (is_below, set_against, covers_below, covers_above, way_down, orders_between, ties_for, is_ties_for):
            self.assertEqual(function.__module__, borders.__name__)


if __name__ == "__main__":
    unittest.main()
