"""[13.1] to [13.3]: ways between thin discs, short discs, and distances."""

import itertools
import unittest

from rimtrails.base.discs import Disc, are_same
from rimtrails.build.bridges import bare_disc, disc_of
from rimtrails.errors import InvalidDisc, InvalidOperation, TooMany
from rimtrails.label import ways
from rimtrails.label.labels import collection_of, disc_of_collection, each_collection, exchanged, exchanges
from rimtrails.label.ways import MAX_SHORT, are_moved, distance, each_short, is_way, set_apart, way_between
from rimtrails.order.necklaces import order_of
from rimtrails.order.orders import Order, each_order, top_order
from rimtrails.pair.pairings import let_sets
from rimtrails.thin.faults import is_thin
from rimtrails.thin.moves import each_move, is_short, moved, shortened
from tests.many_discs import discs_by_chance, orders_by_chance, renamed_by_chance, thin_by_chance
from tests.refusals import check_arguments, check_judge, check_refused, no_discs, no_orders
from tests.samples import BLACK, DOUBLE, HUNG, LINE, SQUARE, STAR, wrong_values

TURN = ("square", ("e", "f", "g", "h"))
OVER = moved(SQUARE, TURN)
TWO = moved(SQUARE, ("pull", "a", "h", 2))
FEW = [order for many in range(1, 5) for order in each_order(many)]
MORE = [*orders_by_chance(4, 6), *orders_by_chance(5, 10), *orders_by_chance(6, 6), top_order(5, 2), top_order(6, 3)]
LARGE = top_order(8, 4)
WHITE_LINE = Disc.from_lines("rim p q", "white b p q")


def is_way_told(one, other, way):
    """By the words of [13.1]."""
    disc = one
    for move in way:
        if move not in list(each_move(disc)):
            return False
        disc = moved(disc, move)
    return disc.named_anew == other.named_anew


def rows_told(order):
    """The least numbers of exchanges between all collections of the order, by force."""
    found = list(each_collection(order))
    near = {some: [exchanged(order, some, own) for own, _ in exchanges(order, some)] for some in found}
    told = {}
    for start in found:
        told[start, start] = 0
        waiting = [start]
        for some in waiting:
            for other in near[some]:
                if (start, other) not in told:
                    told[start, other] = told[start, some] + 1
                    waiting.append(other)
    return told


class Examples(unittest.TestCase):
    def test_ways(self):
        told = [are_moved(SQUARE, OVER), are_moved(STAR, BLACK), are_moved(LINE, disc_of(Order((2, 3)))), is_way(SQUARE, OVER, (TURN,)),
                is_way(SQUARE, OVER, ()), is_way(TWO, SQUARE, (("draw", "f"),)), way_between(STAR, BLACK)]
        self.assertEqual(told, [True, False, True, True, False, True, None])

    def test_distances(self):
        told = [distance(SQUARE, SQUARE), distance(TWO, SQUARE), distance(TWO, OVER), distance(STAR, BLACK)]
        self.assertEqual(told, [0, 0, 1, None])

    def test_sets_apart(self):
        told = [set_apart(STAR, BLACK) in (*let_sets(STAR), *let_sets(BLACK)), set_apart(LINE, DOUBLE),
                len(set_apart(STAR, Disc.from_lines("rim a b c", "white a a c", "black b b")))]
        self.assertEqual(told, [True, None, 1])

    def test_short_discs(self):
        self.assertEqual([short.lines[1] for short in each_short(Order((3, 4, 5, 6)))], ["black a a e f", "white a a e f"])
        with self.assertRaises(InvalidOperation):
            are_moved(LINE, DOUBLE)

    def test_the_constant(self):
        self.assertEqual(MAX_SHORT, 1000)


class Moved(unittest.TestCase):
    def test_exactly_if_the_orders_are_equal(self):
        discs = [disc for disc in discs_by_chance(200) if is_thin(disc)][:25]
        discs += [thin_by_chance(order, 7) for order in FEW[::8]] + [thin_by_chance(order, 8) for order in FEW[::8]]
        told = set()
        for one, other in itertools.combinations(discs, 2):
            wanted = one.many == other.many and let_sets(one) == let_sets(other)
            self.assertIs(are_moved(one, other), wanted)
            self.assertIs(order_of(one) == order_of(other), wanted)
            told.add(wanted)
        self.assertEqual(told, {True, False})

    def test_equal_let_sets_but_other_rim_places(self):
        one, other = bare_disc(("black",)), bare_disc(("black", "black"))
        self.assertEqual(let_sets(one), let_sets(other))
        self.assertEqual([are_moved(one, other), way_between(one, other), distance(one, other), is_way(one, other, ())],
                         [False, None, None, False])

    def test_moves_of_a_thin_disc(self):
        for move in each_move(SQUARE):
            self.assertIs(are_moved(SQUARE, moved(SQUARE, move)), True)


class Ways(unittest.TestCase):
    def test_between_drawn_discs(self):
        kinds = set()
        for order in MORE:
            one = thin_by_chance(order, 1, 9)
            other = renamed_by_chance(thin_by_chance(order, 2, 9), 3)
            for first, last in ((one, other), (other, one)):
                way = way_between(first, last)
                self.assertIs(is_way(first, last, way), True)
                self.assertTrue(is_way_told(first, last, way))
                kinds |= {move[0] for move in way}
        self.assertEqual(kinds, {"draw", "pull", "put", "square"})

    def test_between_discs_of_few_places(self):
        for order in FEW:
            one, other = thin_by_chance(order, 3), thin_by_chance(order, 4)
            self.assertTrue(is_way_told(one, other, way_between(one, other)))

    def test_between_discs_of_the_most_ties(self):
        order = top_order(6, 3)
        one, other = thin_by_chance(order, 5, 40), thin_by_chance(order, 6, 40)
        while len(one) < 60:
            one = moved(one, ("put", 3))
        self.assertIs(is_way(one, other, way_between(one, other)), True)
        self.assertIs(is_way(other, one, way_between(other, one)), True)

    def test_lines_of_both_colours(self):
        both = Disc.from_lines("rim p q r s", "white a p s", "white b q r")
        others = Disc.from_lines("rim p q r s", "white a p s", "black b q r"), Disc.from_lines("rim p q r s", "black a p s", "black b q r")
        for one, other in ((WHITE_LINE, LINE), (LINE, WHITE_LINE), *itertools.permutations((both, *others), 2)):
            self.assertTrue(is_way_told(one, other, way_between(one, other)))
            self.assertEqual(distance(one, other), 0)

    def test_none_is_needed_between_equal_discs(self):
        for order in MORE:
            one = thin_by_chance(order, 1, 9)
            other = renamed_by_chance(one, 4)
            self.assertIs(is_way(one, other, ()), True)
            self.assertEqual(way_between(one, other), ())

    def test_none_between_discs_of_unlike_orders(self):
        for one, other in itertools.permutations((SQUARE, STAR, BLACK, LINE, bare_disc(("black",))), 2):
            self.assertIsNone(way_between(one, other))
            self.assertIsNone(distance(one, other))

    def test_judged(self):
        for order in MORE[::3]:
            one, other = thin_by_chance(order, 1, 4), thin_by_chance(order, 2, 4)
            way = way_between(one, other)
            for at in range(len(way)):
                cut, doubled = way[:at] + way[at + 1:], way[:at + 1] + way[at:]
                for value in (cut, doubled, way[:at], way[at:], way[at:] + way[:at]):
                    self.assertIs(is_way(one, other, value), is_way_told(one, other, value))
            for value in (way[::-1], way + way, list(way), (way,)):
                told = isinstance(value, tuple) and is_way_told(one, other, value)
                self.assertIs(is_way(one, other, value), told)

    def test_near_ways(self):
        for one, other, way in ((SQUARE, OVER, (TURN,)), (TWO, SQUARE, (("draw", "f"),)), (SQUARE, TWO, (("pull", "a", "h", 2),))):
            def judge(value, one=one, other=other):
                return is_way(one, other, value)
            self.assertIs(judge(way), True)
            for value in (*wrong_values(), (), {}, 1, [way[0]], way[0], (list(way[0]),), (*way, *way), (None,), (way,)):
                self.assertIs(judge(value), False, value)
            for move in each_move(one):
                self.assertIs(judge((move,)), is_way_told(one, other, (move,)))
        self.assertIs(is_way(LINE, moved(LINE, ("put", 1)), (("put", 1),)), True)
        self.assertIs(is_way(LINE, moved(LINE, ("put", 1)), (("put", True),)), False)

    def test_small_ways_near_one(self):
        one, other = LINE, moved(LINE, ("put", 2))
        found = [(move,) for move in each_move(one) if is_way_told(one, other, (move,))]
        self.assertEqual(found, [(("put", 2),)])
        check_judge(self, lambda value: is_way(one, other, value), found)


class Apart(unittest.TestCase):
    def test_for_discs_that_need_not_be_thin(self):
        discs = discs_by_chance(120)
        found = set()
        for one, other in itertools.product(discs[::3], discs[::4]):
            if one.many == other.many:
                apart = set_apart(one, other)
                wanted = set(let_sets(one)) ^ set(let_sets(other))
                self.assertTrue(apart in wanted if wanted else apart is None)
                found.add(apart is None)
            else:
                check_refused(self, InvalidOperation, None, set_apart, one, other)
        self.assertEqual(found, {True, False})

    def test_which_error_comes_first(self):
        check_refused(self, InvalidDisc, None, set_apart, None, LINE)
        check_refused(self, InvalidDisc, None, set_apart, SQUARE, None)
        check_refused(self, InvalidOperation, None, set_apart, SQUARE, LINE)
        self.assertIsNone(set_apart(DOUBLE, DOUBLE))


class ShortDiscs(unittest.TestCase):
    def test_all_of_some_orders(self):
        for order in [*FEW, *MORE, top_order(7, 3)]:
            found = list(each_short(order))
            self.assertEqual([disc.lines for disc in found], sorted({disc.lines for disc in found}))
            self.assertEqual(sorted(collection_of(disc) for disc in found), list(each_collection(order)))
            for disc in found[::5]:
                self.assertEqual((is_thin(disc), is_short(disc), order_of(disc), disc.named_anew), (True, True, order, disc))
                self.assertEqual(disc_of_collection(order, collection_of(disc)), disc)

    def test_each_thin_disc_shortened_is_one(self):
        for order in MORE:
            found = [disc.lines for disc in each_short(order)]
            for seed in range(3):
                self.assertIn(shortened(thin_by_chance(order, seed, 8)).named_anew.lines, found)

    def test_too_many(self):
        with self.assertRaises(TooMany) as caught:
            next(each_short(LARGE))
        self.assertEqual(caught.exception.limit, 1000)


class Distances(unittest.TestCase):
    def test_by_force(self):
        for order in [*FEW[::3], *MORE]:
            told = rows_told(order)
            found = list(each_collection(order))
            discs = {some: thin_by_chance_with(order, some) for some in found[:8]}
            for one, other in itertools.product(discs, repeat=2):
                self.assertEqual(distance(discs[one], discs[other]), told[one, other])

    def test_of_drawn_discs(self):
        order = top_order(6, 3)
        told = rows_told(order)
        discs = [thin_by_chance(order, seed, 9) for seed in range(4)]
        found = set()
        for one, other in itertools.product(discs, repeat=2):
            far = distance(one, other)
            self.assertEqual(far, told[collection_of(one), collection_of(other)])
            self.assertEqual(far == 0, are_same(shortened(one), shortened(other)))
            self.assertEqual(distance(other, one), far)
            squares = [move for move in way_between(one, other) if move[0] == "square"]
            self.assertGreaterEqual(len(squares), far)
            for third in discs:
                self.assertLessEqual(distance(one, third), far + distance(other, third))
            found.add(far)
        self.assertGreater(len(found), 1)

    def test_draws_pulls_and_puts_are_free(self):
        for disc in (SQUARE, TWO, OVER):
            for move in each_move(disc):
                self.assertEqual(distance(disc, moved(disc, move)), int(move[0] == "square"))


class ManyShortDiscs(unittest.TestCase):
    def setUp(self):
        self.one = disc_of(LARGE)
        square = next(move for move in each_move(shortened(self.one)) if move[0] == "square")
        self.other = moved(shortened(self.one), square)

    def test_equal_when_they_are_shortened(self):
        self.assertEqual(distance(self.one, shortened(self.one)), 0)
        self.assertTrue(is_way_told(self.one, shortened(self.one), way_between(self.one, shortened(self.one))))
        self.assertEqual(way_between(self.one, self.one.named_anew), ())

    def test_unlike_when_they_are_shortened(self):
        self.assertIs(are_moved(self.one, self.other), True)
        for function in (way_between, distance):
            with self.assertRaises(TooMany) as caught:
                function(self.one, self.other)
            self.assertEqual(caught.exception.limit, 1000)
        self.assertIs(is_way(self.one, self.other, ()), False)

    def test_of_unlike_orders(self):
        for function in (way_between, distance):
            self.assertIsNone(function(self.one, disc_of(top_order(8, 3))))


class WrongArguments(unittest.TestCase):
    def test_of_each_function(self):
        for function in (are_moved, way_between, distance):
            check_arguments(self, function, (SQUARE, OVER), [no_discs(), no_discs()])
        check_arguments(self, is_way, (SQUARE, OVER, ()), [no_discs(), no_discs()])
        check_arguments(self, set_apart, (SQUARE, OVER), [no_discs(), no_discs()])
        check_arguments(self, each_short, (Order((2, 3)),), [no_orders()])

    def test_both_errors_of_the_one_disc_come_first(self):
        for function, rest in ((are_moved, ()), (way_between, ()), (distance, ()), (is_way, ((),))):
            for thick in (DOUBLE, HUNG):
                check_refused(self, InvalidOperation, None, function, thick, LINE, *rest)
                check_refused(self, InvalidOperation, None, function, LINE, thick, *rest)
                check_refused(self, InvalidOperation, None, function, thick, None, *rest)
                check_refused(self, InvalidDisc, None, function, None, thick, *rest)
                check_refused(self, InvalidDisc, None, function, LINE, None, *rest)

    def test_a_generator_raises_when_it_is_asked(self):
        for order in (None, LARGE):
            asked = each_short(order)
            self.assertRaises((ValueError, OverflowError), next, asked)

    def test_the_functions_are_defined_in_their_module(self):
        for function in (are_moved, way_between, is_way, set_apart, each_short, distance):
            self.assertEqual(function.__module__, ways.__name__)


def thin_by_chance_with(order, collection):
    """A thin disc with this collection that is not short, if there can be one."""
    disc = disc_of_collection(order, collection)
    for move in list(each_move(disc))[1::7]:
        if move[0] in ("pull", "put"):
            return moved(disc, move)
    return disc


if __name__ == "__main__":
    unittest.main()
