"""[12.1] to [12.5]: labels of regions, collections, and exchanges."""

import itertools
import unittest

from rimtrails.base.discs import Disc
from rimtrails.base.trails import region_at, region_beside, regions_across, regions_of, trail, trail_ends
from rimtrails.build.bridges import bare_disc, disc_of
from rimtrails.errors import InvalidCollection, InvalidNumber, InvalidOperation, InvalidSet, TooMany
from rimtrails.label import labels
from rimtrails.label.labels import (MAX_COLLECTIONS, collection_of, crossing_in, disc_of_collection, do_cross,
                                    each_collection, exchanged, exchanges, is_collection, is_left_of, labels_of)
from rimtrails.order.necklaces import necklace_of, order_of, sets_of
from rimtrails.order.orders import Order, each_order, top_order
from rimtrails.pair.pairings import let_sets
from rimtrails.thin.faults import is_thin
from rimtrails.thin.moves import each_move, is_short, moved, shortened
from tests.many_discs import discs_by_chance, orders_by_chance, renamed_by_chance, thin_by_chance
from tests.refusals import (check_arguments, check_judge, check_refused, no_discs, no_numbers, no_orders,
                            not_one_of)
from tests.samples import BLACK, DOUBLE, HUNG, LINE, SQUARE, STAR, wrong_values

TOP = Order((3, 4, 5, 6))
LARGE = top_order(8, 4)
FEW = [order for many in range(1, 5) for order in each_order(many)]
THIN = [disc for disc in discs_by_chance(300) if is_thin(disc)]
THIN += [thin_by_chance(order, 2) for many in range(3, 9) for order in orders_by_chance(many, 6)]


def do_cross_told(one, other):
    """By the words of [12.3], among all rim places."""
    for a, b, c, d in itertools.combinations(range(1, 9), 4):
        for first, last in ((one, other), (other, one)):
            own = {a, c} <= set(first) and not {a, c} & set(last)
            if own and {b, d} <= set(last) and not {b, d} & set(first):
                return True
    return False


def is_collection_told(order, sets):
    """By the words of [12.4], for an ascending tuple of let sets."""
    if not set(necklace_of(order)) <= set(sets):
        return False
    if any(do_cross_told(*pair) for pair in itertools.combinations(sets, 2)):
        return False
    return all(any(do_cross_told(some, other) for other in sets) for some in sets_of(order) if some not in sets)


def collections_told(order):
    """All collections, by force."""
    let = sets_of(order)
    fixed = sorted(set(necklace_of(order)))
    free = [some for some in let if some not in fixed]
    found = []
    for size in range(len(free) + 1):
        for chosen in itertools.combinations(free, size):
            if is_collection_told(order, tuple(sorted([*fixed, *chosen]))):
                found.append(tuple(sorted([*fixed, *chosen])))
    return sorted(found)


def exchanges_told(order, collection):
    """By the words of [12.5]."""
    found = set()
    for a, b, c, d in itertools.combinations(range(1, order.many + 1), 4):
        rest = [place for place in range(1, order.many + 1) if place not in (a, b, c, d)]
        for size in range(len(rest) + 1):
            for base in itertools.combinations(rest, size):
                def with_two(first, last, base=base):
                    return tuple(sorted((*base, first, last)))
                one, other = with_two(a, c), with_two(b, d)
                if all(with_two(*pair) in collection for pair in ((a, b), (b, c), (c, d), (a, d))):
                    found |= {(one, other)} if one in collection else set()
                    found |= {(other, one)} if other in collection else set()
    return tuple(sorted(found))


def left_told(disc, index):
    """The regions on the left of a trail that ends elsewhere, by the words of [12.1]."""
    steps = trail(disc, index)
    walked = {tie for tie, _ in steps}
    left = {region_beside(disc, *step) for step in steps}
    grown = None
    while grown != left:
        grown = set(left)
        for tie in disc.ties:
            pair = regions_across(disc, tie)
            if tie not in walked and left & set(pair):
                left |= set(pair)
    return left


class Examples(unittest.TestCase):
    def test_labels(self):
        told = [labels_of(STAR)[region_at(STAR, 2)], labels_of(BLACK)[region_at(BLACK, 2)], labels_of(SQUARE)[region_at(SQUARE, 4)],
                labels_of(SQUARE)[region_beside(SQUARE, "e", "a")]]
        self.assertEqual(told, [(2,), (2, 3), (1, 4), (2, 4)])

    def test_left(self):
        told = [is_left_of(STAR, 1, region_at(STAR, 2)), is_left_of(STAR, 1, region_at(STAR, 3)),
                is_left_of(SQUARE, 2, region_beside(SQUARE, "e", "a")), is_left_of(STAR, 1, None)]
        self.assertEqual(told, [True, False, True, False])

    def test_collections(self):
        told = [collection_of(SQUARE), collection_of(LINE), collection_of(Disc.from_lines("rim p q", "white a p", "black b q"))]
        self.assertEqual(told, [((1, 2), (1, 4), (2, 3), (2, 4), (3, 4)), ((1,), (2,)), ((1,),)])

    def test_crossing(self):
        told = [do_cross(4, (1, 3), (2, 4)), do_cross(4, (1, 2), (3, 4)), do_cross(6, (1, 3, 5), (2, 4, 6)),
                do_cross(5, (1, 2, 4), (2, 3, 5)), crossing_in(((1, 2), (1, 3), (2, 4)))]
        self.assertEqual(told, [True, False, True, True, ((1, 3), (2, 4))])

    def test_exchanges(self):
        own = collection_of(SQUARE)
        told = [exchanges(TOP, own), exchanged(TOP, own, (2, 4)), len(list(each_collection(TOP))),
                len(list(each_collection(Order((3, 4, 5, 6, 7)))))]
        self.assertEqual(told, [(((2, 4), (1, 3)),), ((1, 2), (1, 3), (1, 4), (2, 3), (3, 4)), 2, 5])
        self.assertEqual(disc_of_collection(TOP, exchanged(TOP, own, (2, 4))).lines,
                         ("rim a b c d", "black a a e f", "white b b g e", "black c c h g", "white d d f h"))
        with self.assertRaises(InvalidOperation):
            exchanged(TOP, own, (1, 2))

    def test_the_constant(self):
        self.assertEqual(MAX_COLLECTIONS, 1000)


class Left(unittest.TestCase):
    def test_of_trails_that_end_elsewhere(self):
        for disc in THIN:
            for index in range(1, disc.many + 1):
                if trail_ends(disc)[index - 1] != index:
                    left = left_told(disc, index)
                    for region in regions_of(disc):
                        self.assertIs(is_left_of(disc, index, region), region in left, (disc.lines, index))
                    self.assertTrue(0 < len(left) < disc.regions)

    def test_the_regions_at_a_tie_lie_on_both_sides_if_it_is_walked(self):
        for disc in THIN[::3]:
            for index in range(1, disc.many + 1):
                walked = {tie for tie, _ in trail(disc, index)}
                for tie in disc.ties:
                    one, other = [is_left_of(disc, index, region) for region in regions_across(disc, tie)]
                    self.assertEqual(one != other, tie in walked and trail_ends(disc)[index - 1] != index)

    def test_of_trails_that_end_where_they_began(self):
        disc = Disc.from_lines("rim p q r s", "white a p", "black b q", "black c r s")
        for index, told in ((1, True), (2, False)):
            self.assertEqual([is_left_of(disc, index, region) for region in regions_of(disc)], [told] * 2)

    def test_values_of_other_kinds(self):
        region = region_at(STAR, 2)
        self.assertEqual(region, (("q", 2), ("p", "w")))
        for value in (*wrong_values(), (), {}, 1, "a", list(region), region[1:], region[::-1], (("q", 3), ("p", "w")), (("q", 2),) * 2):
            self.assertIs(is_left_of(STAR, 1, value), False, value)
        one = region_at(STAR, 1)
        left = [index for index in (1, 2, 3) if is_left_of(STAR, index, one)]
        self.assertEqual(one, (("p", 1), ("r", "w")))
        for value in ((("p", True), ("r", "w")), (["p", 1], ("r", "w")), (("p", 1), ("r", "w"), ("p", 1))):
            self.assertFalse(any(is_left_of(STAR, index, value) for index in left))
        self.assertEqual(len(left), 1)

    def test_judged_near_regions(self):
        for disc in (SQUARE, BLACK, LINE):
            for index in range(1, disc.many + 1):
                left = [region for region in regions_of(disc) if is_left_of(disc, index, region)]
                check_judge(self, lambda value, disc=disc, index=index: is_left_of(disc, index, value), left)


class Labels(unittest.TestCase):
    def test_ends_of_trails_on_whose_left_a_region_lies(self):
        for disc in THIN:
            found = labels_of(disc)
            self.assertEqual(tuple(found), regions_of(disc))
            for region, label in found.items():
                told = [trail_ends(disc)[at - 1] for at in range(1, disc.many + 1) if is_left_of(disc, at, region)]
                self.assertEqual(label, tuple(sorted(told)))

    def test_all_are_let_and_differ(self):
        for disc in THIN:
            found = list(labels_of(disc).values())
            self.assertEqual(len(set(found)), len(found))
            self.assertLessEqual(set(found), set(let_sets(disc)))

    def test_at_the_rim_they_are_the_necklace(self):
        for disc in THIN:
            found = labels_of(disc)
            told = tuple(found[region_at(disc, index)] for index in range(1, disc.many + 1))
            self.assertEqual(told, necklace_of(order_of(disc)))

    def test_on_both_sides_of_a_tie(self):
        # [12.2]
        for disc in THIN[::2]:
            found = labels_of(disc)
            ends = {step: steps[-1][1] for at in range(1, disc.many + 1) for steps in [trail(disc, at)] for step in steps}
            for tie in disc.ties:
                for own, other in (disc.ends_of(tie), disc.ends_of(tie)[::-1]):
                    i, j = ends[tie, own], ends[tie, other]
                    if i != j:
                        left, right = found[region_beside(disc, tie, own)], found[region_beside(disc, tie, other)]
                        self.assertEqual(set(left), set(right) - {j} | {i})
                        self.assertIn(j, right)

    def test_dead_ends_alone(self):
        disc = bare_disc(("white", "black", "white"))
        self.assertEqual(labels_of(disc), {regions_of(disc)[0]: (1, 3)})

    def test_a_returned_dict_is_free(self):
        found = labels_of(STAR)
        found.clear()
        self.assertEqual(len(labels_of(STAR)), 3)


class Crossing(unittest.TestCase):
    def test_all_sets_of_few_places(self):
        found = set()
        for size in range(5):
            for one, other in itertools.product(itertools.combinations(range(1, 8), size), repeat=2):
                told = do_cross_told(one, other)
                self.assertIs(do_cross(7, one, other), told, (one, other))
                found.add((told, bool(set(one) & set(other))))
        self.assertEqual(len(found), 4)

    def test_the_least_pair(self):
        sets = list(itertools.combinations(range(1, 6), 2))
        for size in range(5):
            for some in itertools.combinations(sets, size):
                told = [pair for pair in itertools.combinations(some, 2) if do_cross_told(*pair)]
                self.assertEqual(crossing_in(some), told[0] if told else None)
        self.assertIsNone(crossing_in(()))
        self.assertIsNone(crossing_in(((),)))
        self.assertEqual(crossing_in(((1, 7), (6, 8))), ((1, 7), (6, 8)))

    def test_wrong_arguments(self):
        no_sets = not_one_of([(), (2, 4), (1, 2, 3)], InvalidSet)
        no_sets[1].extend([(2, 1), (1, 1), (0, 1), (1, 5), (True, 2), [1, 2], (1, "2")])
        check_arguments(self, do_cross, (4, (1, 3), (2, 4)), [no_numbers(1, 8), no_sets, no_sets])
        for one, other in (((1, 2), (3,)), ((), (1,)), ((1, 2), ())):
            check_refused(self, InvalidOperation, None, do_cross, 4, one, other)
        check_refused(self, InvalidSet, None, do_cross, 4, (1, 2), (3, 3, 4))
        no_sets = not_one_of([(), ((),)], InvalidCollection)
        no_sets[1].extend([((1, 2), (1,)), ((1, 3), (1, 2)), ((1, 2), (1, 2)), [(1, 2)], ((1, 9),), ((0, 1),), ((2, 1),), ((True, 2),),
                           (1, 2), ((1, 2), [1, 3])])
        check_arguments(self, crossing_in, (((1, 2),),), [no_sets])


class Collections(unittest.TestCase):
    def test_all_of_few_places_by_force(self):
        for order in FEW:
            self.assertEqual(list(each_collection(order)), collections_told(order), order.numbers)

    def test_all_of_five_places_by_force(self):
        for order in [*orders_by_chance(5, 12), top_order(5, 2), top_order(5, 3)]:
            self.assertEqual(list(each_collection(order)), collections_told(order), order.numbers)

    def test_of_discs(self):
        for disc in THIN:
            collection = collection_of(disc)
            order = order_of(disc)
            self.assertEqual(collection, tuple(sorted(labels_of(disc).values())))
            self.assertIs(is_collection(order, collection), True)
            self.assertEqual(len(collection), order.size + 1)

    def test_many(self):
        for many, level, told in ((6, 3, 34), (7, 3, 259), (6, 2, 14), (8, 2, 132)):
            order = top_order(many, level)
            found = list(each_collection(order))
            self.assertEqual((len(found), found), (told, sorted(set(found))))
            for collection in found[::9]:
                self.assertTrue(is_collection_told(order, collection))

    def test_too_many(self):
        for order in (LARGE, top_order(8, 3), top_order(8, 5)):
            with self.assertRaises(TooMany) as caught:
                next(each_collection(order))
            self.assertEqual(caught.exception.limit, 1000)
            own = collection_of(disc_of(order))
            self.assertIs(is_collection(order, own), True)
            self.assertTrue(exchanges(order, own))
            with self.assertRaises(TooMany) as caught:
                disc_of_collection(order, own)
            self.assertEqual(caught.exception.limit, 1000)
            check_refused(self, InvalidCollection, None, disc_of_collection, order, own[1:])

    def test_judged(self):
        for order in [*FEW[::5], TOP, *orders_by_chance(5, 6), top_order(5, 2)]:
            found = collections_told(order)
            check_judge(self, lambda value, order=order: is_collection(order, value), found)
            for other in FEW[::3]:
                for value in each_collection(other):
                    self.assertIs(is_collection(order, value), value in found)

    def test_judged_by_force(self):
        sets = list(itertools.combinations(range(1, 5), 2))
        for order in (TOP, Order((3, 4, 6, 5)), Order((2, 5, 4, 7)), Order((4, 3, 5, 6))):
            found = collections_told(order)
            for size in range(len(sets) + 1):
                for some in itertools.combinations(sets, size):
                    self.assertIs(is_collection(order, some), some in found)


class Exchanges(unittest.TestCase):
    def test_by_the_words(self):
        met = set()
        for order in [*FEW, *orders_by_chance(5, 8), *orders_by_chance(6, 8), top_order(6, 3), top_order(7, 3), Order((4, 3, 5, 6))]:
            found = list(each_collection(order))
            for collection in found[::max(1, len(found) // 12)]:
                told = exchanges_told(order, collection)
                self.assertEqual(exchanges(order, collection), told)
                met.add(len(told))
                for own, other in told:
                    behind = exchanged(order, collection, own)
                    self.assertEqual(behind, tuple(sorted(set(collection) - {own} | {other})))
                    self.assertIn(behind, found)
                    self.assertEqual(exchanged(order, behind, other), collection)
        self.assertGreater(len(met), 3)

    def test_each_set_has_one_at_most_and_those_of_the_necklace_none(self):
        for order in (top_order(6, 3), top_order(7, 3), top_order(8, 2)):
            for collection in list(each_collection(order))[::10]:
                own = [pair[0] for pair in exchanges(order, collection)]
                self.assertEqual(len(set(own)), len(own))
                self.assertFalse(set(own) & set(necklace_of(order)))

    def test_from_one_collection_to_all(self):
        for order in [*FEW, *orders_by_chance(5, 10), top_order(6, 3)]:
            found = list(each_collection(order))
            reached = {found[0]}
            waiting = [found[0]]
            while waiting:
                collection = waiting.pop()
                for own, _ in exchanges(order, collection):
                    behind = exchanged(order, collection, own)
                    if behind not in reached:
                        reached.add(behind)
                        waiting.append(behind)
            self.assertEqual(sorted(reached), found)

    def test_squares_make_them(self):
        for order in [top_order(5, 2), top_order(6, 3), *orders_by_chance(6, 5)]:
            disc = shortened(disc_of(order))
            found = labels_of(disc)
            own = collection_of(disc)
            squares = {move[1] for move in each_move(disc) if move[0] == "square"}
            made = []
            for region, label in found.items():
                ties = tuple(sorted(tie for tie, _ in region))
                inner = len(region) == 4 and not any(isinstance(end, int) for _, end in region)
                self.assertEqual(ties in squares, inner)
                if inner:
                    behind = collection_of(shortened(moved(disc, ("square", ties))))
                    self.assertEqual(behind, exchanged(order, own, label))
                    made.append(label)
            self.assertEqual(sorted(made), [pair[0] for pair in exchanges(order, own)])

    def test_what_cannot_be_exchanged(self):
        own = collection_of(SQUARE)
        for value in (*wrong_values(), (), {}, 1, [2, 4], (1, 2), (1, 3), (4, 2), ((2, 4),), "2", None):
            if value != (2, 4):
                check_refused(self, InvalidOperation, None, exchanged, TOP, own, value)
        five = top_order(5, 2)
        check_refused(self, InvalidOperation, None, exchanged, five, list(each_collection(five))[0], (True, 3))


class ShortDiscs(unittest.TestCase):
    def check(self, order, collection):
        disc = disc_of_collection(order, collection)
        self.assertEqual((is_thin(disc), is_short(disc), disc.named_anew, order_of(disc), collection_of(disc)),
                         (True, True, disc, order, collection), (order.numbers, collection))
        return disc

    def test_of_each_collection(self):
        for order in [*FEW, *orders_by_chance(5, 12), top_order(5, 3)]:
            for collection in each_collection(order):
                self.check(order, collection)

    def test_of_some_collections(self):
        for order in [*orders_by_chance(6, 8), *orders_by_chance(7, 8), *orders_by_chance(8, 10), top_order(7, 3)]:
            collection = collection_of(disc_of(order))
            try:
                self.check(order, collection)
            except TooMany:
                continue
            for own, _ in exchanges(order, collection)[:3]:
                self.check(order, exchanged(order, collection, own))

    def test_there_is_no_other_one(self):
        for disc in THIN:
            if disc.many < 7:
                wanted = disc_of_collection(order_of(disc), collection_of(disc))
                self.assertEqual(shortened(disc).named_anew, wanted)
                self.assertEqual(shortened(renamed_by_chance(disc, 3)).named_anew, wanted)

    def test_dead_ends_and_lines(self):
        self.assertEqual(disc_of_collection(Order((2, 5, 3, 8)), ((1, 4), (2, 4))).lines,
                         ("rim a b c d", "black a a b", "black b c", "white c d"))
        self.assertEqual(disc_of_collection(Order((1,)), ((),)).lines, ("rim a", "black a a"))
        self.assertEqual(disc_of_collection(Order((2,)), ((1,),)).lines, ("rim a", "white a a"))


class WrongArguments(unittest.TestCase):
    def test_discs_that_are_not_thin(self):
        for function in (labels_of, collection_of):
            check_arguments(self, function, (SQUARE,), [no_discs()])
            for disc in (DOUBLE, HUNG):
                check_refused(self, InvalidOperation, None, function, disc)
        check_arguments(self, is_left_of, (SQUARE, 1, None), [no_discs(), no_numbers(1, 4)])
        check_refused(self, InvalidOperation, None, is_left_of, DOUBLE, 1, None)
        for index in (0, 3, True, None, "1"):
            check_refused(self, InvalidNumber, index, is_left_of, DOUBLE, index, None)

    def test_orders_and_collections(self):
        own = collection_of(SQUARE)
        no_collections = not_one_of((), InvalidCollection)
        no_collections[1].extend([own[1:], own[::-1], list(own), (*own, (1, 3)), collection_of(LINE), ((1,), (2,))])
        for function in (exchanges, disc_of_collection):
            check_arguments(self, function, (TOP, own), [no_orders(), no_collections])
        check_arguments(self, exchanged, (TOP, own, (2, 4)), [no_orders(), no_collections])
        check_refused(self, InvalidCollection, None, exchanged, TOP, own[1:], None)
        check_arguments(self, is_collection, (TOP, None), [no_orders()])
        check_arguments(self, each_collection, (TOP,), [no_orders()])

    def test_a_generator_raises_when_it_is_asked(self):
        for order in (None, LARGE):
            asked = each_collection(order)
            self.assertRaises((ValueError, OverflowError), next, asked)

    def test_the_functions_are_defined_in_their_module(self):
        for function in (is_left_of, labels_of, do_cross, crossing_in, collection_of, is_collection, exchanges, exchanged,
                         each_collection, disc_of_collection):
            self.assertEqual(function.__module__, labels.__name__)


if __name__ == "__main__":
    unittest.main()
