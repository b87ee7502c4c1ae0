"""[7.1] to [7.5]: necklaces, and the sets that orders let."""

import itertools
import unittest

from rimtrails.base.discs import Disc
from rimtrails.base.words import nth_name
from rimtrails.errors import InvalidNecklace, InvalidOrder, InvalidSet
from rimtrails.order import necklaces
from rimtrails.order.necklaces import (barred_at, is_necklace, is_set_of, necklace_of, order_of, order_of_necklace,
                                       order_of_sets, sets_of)
from rimtrails.order.orders import Order, count_orders, each_order, top_order
from rimtrails.pair.pairings import let_sets
from tests.many_discs import discs_by_chance, grid
from tests.refusals import check_arguments, check_judge, check_refused, near, no_discs, no_numbers, not_one_of
from tests.samples import BLACK, DOUBLE, HUNG, LINE, SQUARE, STAR, wrong_values

SOME = Order((2, 4, 5, 7))
FIXED = Order((2, 5, 3, 8))
FEW = [order for many in range(1, 5) for order in each_order(many)]
SPARSE = FEW[::7] + list(each_order(5))[::23] + list(each_order(8, level=4))[::9001]


def subsets(many):
    """All sets of so many rim places, ascending."""
    return sorted(some for size in range(many + 1) for some in itertools.combinations(range(1, many + 1), size))


def can_follow(index, places, others):
    """[7.2], told once more."""
    if index not in places:
        return others == places
    kept = set(places) - {index}
    return any(set(others) == kept | {new} for new in range(1, 9) if new not in kept)


def is_told(many, value):
    return all(can_follow(index, value[index - 1], value[index % many]) for index in range(1, many + 1))


def is_below(many, start, one, other):
    """[7.1], told once more."""
    turn = [*range(start, many + 1), *range(1, start)]
    seats = [sorted(turn.index(place) for place in places) for places in (one, other)]
    return any(own < wanted for own, wanted in zip(*seats))


class Examples(unittest.TestCase):
    def test_of_one_order(self):
        told = [necklace_of(SOME), sets_of(SOME), barred_at(SOME, (1, 2)), barred_at(SOME, (1, 3))]
        self.assertEqual(told, [((1, 3), (2, 3), (3, 4), (1, 4)), ((1, 3), (1, 4), (2, 3), (2, 4), (3, 4)), 1, None])

    def test_of_an_order_with_fixed_places(self):
        told = [necklace_of(FIXED), sets_of(FIXED), order_of_necklace(((1, 4), (2, 4), (1, 4), (1, 4))) == FIXED,
                is_set_of(FIXED, (3, 4))]
        self.assertEqual(told, [((1, 4), (2, 4), (1, 4), (1, 4)), ((1, 4), (2, 4)), True, False])

    def test_judges(self):
        told = [barred_at(Order((3, 5, 6, 4)), (1, 4)), is_necklace(2, ((1,), (1,))), is_necklace(2, ((1,), (2,))),
                is_necklace(2, ((2,), (1,))), is_necklace(1, ((1,),))]
        self.assertEqual(told, [4, True, True, False, True])

    def test_orders_of_sets(self):
        told = [order_of_sets(4, ((1, 2), (3, 4))), order_of_sets(3, ((1,), (3,))).numbers, order_of_sets(2, ()),
                order_of_sets(2, ((),)).numbers, order_of(STAR).numbers]
        self.assertEqual(told, [None, (3, 2, 4), None, (1, 2), (2, 3, 4)])

    def test_orders_of_the_discs_of_the_document(self):
        found = [order_of(disc).numbers for disc in (SQUARE, STAR, BLACK, LINE, DOUBLE)]
        self.assertEqual(found, [(3, 4, 5, 6), (2, 3, 4), (3, 4, 5), (2, 3), (2, 3)])


class Necklaces(unittest.TestCase):
    def test_of_levels_at_the_ends(self):
        for many in range(1, 9):
            black, white = top_order(many, 0), top_order(many, many)
            every = tuple(range(1, many + 1))
            self.assertEqual((necklace_of(black), necklace_of(white)), (((),) * many, (every,) * many))
            self.assertEqual((sets_of(black), sets_of(white)), (((),), (every,)))
            self.assertEqual((order_of_necklace(((),) * many), order_of_necklace((every,) * many)), (black, white))

    def test_by_the_words(self):
        for order in FEW + SPARSE:
            many, necklace = order.many, necklace_of(order)
            self.assertEqual(necklace[0], tuple(sorted(order(i) - many for i in range(1, many + 1) if order(i) > many)))
            for index in range(1, many + 1):
                places, others = necklace[index - 1], necklace[index % many]
                self.assertEqual(index in places, order(index) != index)
                self.assertEqual(len(places), order.level)
                if index in places:
                    end = (order(index) - 1) % many + 1
                    self.assertEqual(set(others), set(places) - {index} | {end})
                    self.assertNotIn(end, set(places) - {index})
                else:
                    self.assertEqual(places, others)

    def test_there_and_back(self):
        for order in FEW + SPARSE:
            self.assertIs(is_necklace(order.many, necklace_of(order)), True)
            self.assertEqual(order_of_necklace(necklace_of(order)), order)

    def test_all_tuples_of_few_sets(self):
        for many in (1, 2, 3):
            right = []
            for value in itertools.product(subsets(many), repeat=many):
                self.assertIs(is_necklace(many, value), is_told(many, value), value)
                if is_told(many, value):
                    right.append(value)
                else:
                    check_refused(self, InvalidNecklace, None, order_of_necklace, value)
            self.assertEqual(sorted(right), sorted(necklace_of(order) for order in each_order(many)))
            self.assertEqual(len(right), count_orders(many))

    def test_judged(self):
        for many in range(1, 6):
            told = [necklace_of(order) for order in each_order(many)]
            right = {repr(necklace) for necklace in told}
            for value in (*wrong_values(), (), {}, 1, *[value for necklace in told[::9] for value in near(necklace)]):
                self.assertIs(is_necklace(many, value), repr(value) in right, value)
        check_judge(self, lambda value: is_necklace(1, value), [((),), ((1,),)])
        self.assertIs(is_necklace(1, ((True,),)), False)

    def test_of_other_numbers_of_rim_places(self):
        for many in range(1, 9):
            for other in range(1, 9):
                self.assertIs(is_necklace(other, necklace_of(top_order(many, 1))), many == other)
        self.assertIs(is_necklace(8, ((),) * 9), False)


class Sets(unittest.TestCase):
    def test_they_are_those_that_nothing_bars(self):
        for order in FEW + SPARSE:
            many, necklace = order.many, necklace_of(order)
            let = []
            for places in itertools.combinations(range(1, many + 1), order.level):
                barred = [start for start in range(1, many + 1) if is_below(many, start, places, necklace[start - 1])]
                self.assertEqual(barred_at(order, places), barred[0] if barred else None)
                let += [] if barred else [places]
            self.assertEqual(sets_of(order), tuple(let))

    def test_those_of_the_necklace_are_least(self):
        for order in FEW:
            for start, places in enumerate(necklace_of(order), 1):
                self.assertIs(is_set_of(order, places), True)
                self.assertFalse(any(is_below(order.many, start, other, places) for other in sets_of(order)))

    def test_judged(self):
        for order in SPARSE:
            check_judge(self, lambda value: is_set_of(order, value), sets_of(order), subsets(order.many + 1))

    def test_barred_at_the_last_start(self):
        found = {barred_at(order, places) for order in FEW for places in itertools.combinations(range(1, order.many + 1), order.level)}
        self.assertEqual(found, {None, 1, 2, 3, 4})


class OrdersOfSets(unittest.TestCase):
    def test_there_and_back(self):
        for order in FEW + SPARSE:
            self.assertEqual(order_of_sets(order.many, sets_of(order)), order)

    def test_all_families_of_few(self):
        for many in (1, 2, 3):
            told = {sets_of(order): order for order in each_order(many)}
            self.assertEqual(len(told), count_orders(many))
            for size in range(2 ** many + 1):
                for family in itertools.combinations(subsets(many), size):
                    self.assertEqual(order_of_sets(many, family), told.get(family))

    def test_families_of_one_level_of_four(self):
        told = {sets_of(order): order for order in each_order(4, level=2)}
        pairs = [some for some in subsets(4) if len(some) == 2]
        for size in range(7):
            for family in itertools.combinations(pairs, size):
                self.assertEqual(order_of_sets(4, family), told.get(family))

    def test_of_no_order(self):
        for many in range(1, 9):
            self.assertIsNone(order_of_sets(many, ()))
            self.assertEqual(order_of_sets(many, ((),)), top_order(many, 0))
            self.assertIsNone(order_of_sets(many, ((), (1,))))
        self.assertIsNone(order_of_sets(3, ((1,), (1, 2))))
        self.assertIsNone(order_of_sets(3, ((1, 2), (3,))))
        self.assertIsNone(order_of_sets(4, ((1, 2), (1, 4), (2, 3), (3, 4))))


class OrdersOfDiscs(unittest.TestCase):
    def test_they_let_the_same_sets(self):
        for disc in discs_by_chance(200):
            order = order_of(disc)
            self.assertEqual((order.many, order.level), (disc.many, disc.level))
            self.assertEqual(sets_of(order), let_sets(disc))

    def test_with_other_names(self):
        for disc in discs_by_chance(60):
            places = {place: nth_name(100 - at) for at, place in enumerate(disc.places)}
            ties = {tie: nth_name(300 - at) for at, tie in enumerate(disc.ties)}
            self.assertEqual(order_of(disc.renamed(places, ties)), order_of(disc))
            self.assertEqual(order_of(disc.named_anew), order_of(disc))

    def test_of_some(self):
        self.assertEqual(order_of(HUNG).numbers, (3, 4))
        self.assertEqual(order_of(Disc.from_lines("rim p", "white w p e f", "black b e f")).numbers, (1,))
        self.assertEqual(order_of(grid(5, 6, [0, 2, 5, 8, 10, 13, 16, 19])).numbers, (5, 6, 7, 8, 9, 12, 11, 10))


class WrongArguments(unittest.TestCase):
    def test_of_each_function(self):
        no_orders = not_one_of((), InvalidOrder)
        no_orders[1].append(SOME.numbers)
        for function in (necklace_of, sets_of):
            check_arguments(self, function, (SOME,), [no_orders])
        check_arguments(self, is_set_of, (SOME, None), [no_orders])
        check_arguments(self, is_necklace, (2, None), [no_numbers(1, 8)])
        no_sets = not_one_of([(1, 2), (2, 4)], InvalidSet)
        no_sets[1].extend([(1,), (1, 2, 3), (2, 1), (0, 1), (1, 5), (1, 1), (True, 2), [1, 2], ("1", "2"), (1, None)])
        check_arguments(self, barred_at, (SOME, (1, 3)), [no_orders, no_sets])
        no_necklaces = not_one_of((), InvalidNecklace)
        no_necklaces[1].extend([((2,), (1,)), ((),) * 9, [()], ((1,), (1, 2)), ((3,),), ((True,),), ([],), ((0,),)])
        check_arguments(self, order_of_necklace, (((1,),),), [no_necklaces])
        check_arguments(self, order_of, (SQUARE,), [no_discs()])

    def test_of_families(self):
        no_families = not_one_of([()], InvalidSet)
        no_families[1].extend([[(1,)], ((2,), (1,)), ((1,), (1,)), ((4,),), ((0,),), ((2, 1),), ((1,), [2]), ((1,), 2),
                               ((1,), (True, 2)), ((1,), None), ((1, 1),), ((), ())])
        check_arguments(self, order_of_sets, (3, ()), [no_numbers(1, 8), no_families])
        for family in (((1,), (1, 2)), ((1,), (1, 2), (2,)), ((), (1, 2, 3))):
            self.assertIsNone(order_of_sets(3, family))

    def test_the_functions_are_defined_in_their_module(self):
        for function in (necklace_of, is_necklace, order_of_necklace, sets_of, is_set_of, barred_at, order_of_sets, order_of):
            self.assertEqual(function.__module__, necklaces.__name__)


if __name__ == "__main__":
    unittest.main()
