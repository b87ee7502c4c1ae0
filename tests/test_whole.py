"""[0.14] to [0.22]: one order, told in many ways, over the whole program."""

import random
import unittest

from rimtrails.base.discs import Disc, are_same
from rimtrails.base.trails import region_at, round_trails, trail, trail_ends
from rimtrails.build.bridges import bridged, disc_by, disc_of, order_by, steps_of, with_rim_place
from rimtrails.errors import TooMany
from rimtrails.label.labels import collection_of, disc_of_collection, each_collection, labels_of
from rimtrails.label.ways import are_moved, distance, is_way, set_apart, way_between
from rimtrails.order.diagrams import diagram_of, disc_of_diagram, order_of_diagram
from rimtrails.order.necklaces import order_of, order_of_necklace, order_of_sets, sets_of
from rimtrails.order.orders import Order, each_order, top_order
from rimtrails.pair.pairings import count_pairings, each_pairing, let_sets
from rimtrails.part.borders import covers_below, is_below, ties_for
from rimtrails.part.parts import dual_disc, joined_orders, mirrored_disc, part_order, parts_of, turned_disc
from rimtrails.point.matrices import (is_told, matrix_of_point, minors, numbers_back, numbers_of, order_of_matrix, point_of_matrix,
                                      turned_matrix, with_bridge)
from rimtrails.point.points import is_point, moved_numbers, point_of, region_numbers, rescaling_between
from rimtrails.thin.faults import can_go, is_thin, left_out
from rimtrails.thin.moves import each_move, made_thin, moved, shortened
from rimtrails.use.bench import Bench
from tests.many_discs import discs_by_chance, orders_by_chance, renamed_by_chance, thin_by_chance
from tests.samples import DOUBLE, SQUARE, STAR

ORDERS = [order for many in range(1, 5) for order in each_order(many)]
ORDERS += [order for many in range(5, 9) for order in orders_by_chance(many, 8)] + [top_order(6, 3), top_order(8, 4)]
MANY = discs_by_chance(90)


def numbers_for(disc, seed=0):
    chance = random.Random(seed)
    return {tie: chance.randint(1, 7) for tie in disc.ties}


def order_by_trails(disc):
    """The order of a thin disc, by its trails and dead ends."""
    ends = trail_ends(disc)
    marks = {at: disc.colour(disc.inner_end(at)) for at in range(1, disc.many + 1) if ends[at - 1] == at}
    return Order.of_ends(ends, marks)


def all_orders(disc):
    """The order of a thin disc, told in many ways; they should all be one."""
    numbers = numbers_for(disc, 3)
    point = point_of(disc, numbers)
    order = order_of(disc)
    labels = labels_of(disc)
    return [
        order,
        order_by_trails(disc),
        order_of_sets(disc.many, let_sets(disc)),
        order_of_sets(disc.many, tuple(point)),
        order_of_necklace(tuple(labels[region_at(disc, index)] for index in range(1, disc.many + 1))),
        order_of_diagram(diagram_of(order)),
        order_by(steps_of(order)),
        order_of_matrix(matrix_of_point(order, point)),
        order_of(dual_disc(disc)).dual,
        order_of(mirrored_disc(disc)).mirrored,
        order_of(turned_disc(disc, disc.many - 1)).turned(1),
        order_of(shortened(disc)),
        joined_orders(disc.many, tuple((places, part_order(order, places)) for places in parts_of(order))),
        Bench(disc).order,
    ]


class OneOrder(unittest.TestCase):
    def check(self, disc, order):
        for told in all_orders(disc):
            self.assertEqual(told, order, disc.lines)

    def test_told_in_many_ways(self):
        for order in ORDERS:
            self.check(disc_of(order), order)
            self.check(disc_of_diagram(diagram_of(order)), order)
            self.check(thin_by_chance(order, 1), order)
            self.assertEqual(disc_by(steps_of(order)), disc_of(order))
            self.assertEqual(let_sets(disc_of(order)), sets_of(order))

    def test_of_discs_that_are_made_thin(self):
        for disc in MANY:
            self.check(left_out(disc, made_thin(disc)), order_of(disc))

    def test_behind_moves(self):
        for order in ORDERS[::6]:
            disc = thin_by_chance(order, 2, 4)
            for move in list(each_move(disc))[::5]:
                self.check(moved(disc, move), order)

    def test_behind_bridges(self):
        for order in ORDERS[::3]:
            disc = disc_of(order)
            for index in range(1, order.many):
                behind = bridged(disc, index)
                if order(index) > order(index + 1):
                    self.check(behind, order.starts_exchanged(index))
                    self.assertEqual(order.starts_exchanged(index).size, order.size + 1)
                else:
                    self.assertEqual((order_of(behind), is_thin(behind)), (order, False))
                ends = order_of(bridged(disc, index, ends=True))
                told = [i for value in (index, index + 1) for i in range(1 - order.many, order.many + 1) if order(i) == value]
                self.assertEqual(ends, order.ends_exchanged(index) if told[1] < told[0] else order)
                self.assertIs(is_below(order, ends), True)

    def test_behind_ties_left_out(self):
        for order in ORDERS[::5]:
            disc = thin_by_chance(order, 3, 3)
            while order.size:
                order = covers_below(order)[-1]
                disc = left_out(disc, ties_for(disc, order))
                self.assertEqual(order_of(disc), order)
                self.check(left_out(disc, made_thin(disc)), order)

    def test_behind_new_rim_places(self):
        for order in ORDERS[:40]:
            for index in range(1, order.many + 2):
                for colour in ("black", "white"):
                    disc = with_rim_place(disc_of(order), index, colour)
                    self.check(disc, order_by((*steps_of(order), (colour, index))))

    def test_behind_turns(self):
        for order in ORDERS[::4]:
            disc = thin_by_chance(order, 4, 3)
            self.check(dual_disc(disc), order.dual)
            self.check(mirrored_disc(disc), order.mirrored)
            for by in range(order.many):
                self.check(turned_disc(disc, by), order.turned(by))


class Statements(unittest.TestCase):
    def test_orders_and_let_sets(self):
        # [0.14]
        for one in MANY[::2]:
            for other in MANY[::3]:
                if one.many == other.many:
                    self.assertEqual(order_of(one) == order_of(other), let_sets(one) == let_sets(other))
                    self.assertEqual(set_apart(one, other) is None, let_sets(one) == let_sets(other))

    def test_thin_discs(self):
        # [0.16]
        found = set()
        for disc in MANY:
            used = {tie for pairing in each_pairing(disc) for tie in pairing}
            thin = used == set(disc.ties) and disc.regions == order_of(disc).size + 1
            self.assertEqual(thin, is_thin(disc))
            self.assertEqual(thin, not any(can_go(disc, tie) for tie in disc.ties))
            found.add(thin)
        self.assertEqual(found, {True, False})

    def test_moves_lead_between_thin_discs_of_one_order(self):
        # [0.17]
        for order in ORDERS[::7]:
            one, other = disc_of(order), thin_by_chance(order, 6, 5)
            self.assertIs(are_moved(one, other), True)
            try:
                way = way_between(one, other)
            except TooMany:
                continue
            self.assertIs(is_way(one, other, way), True)
            self.assertLessEqual(distance(one, other), sum(1 for move in way if move[0] == "square"))

    def test_labels(self):
        # [0.18]
        for order in ORDERS[::3]:
            disc = thin_by_chance(order, 7, 3)
            collection = collection_of(disc)
            self.assertEqual(len(collection), order.size + 1)
            try:
                self.assertEqual(disc_of_collection(order, collection), shortened(disc).named_anew)
            except TooMany:
                self.assertGreater(order.size, 10)

    def test_points(self):
        # [0.19]
        for order in ORDERS[::3]:
            disc = thin_by_chance(order, 8, 3)
            numbers = numbers_for(disc, 5)
            point = point_of(disc, numbers)
            self.assertIs(is_point(order, point), True)
            other = thin_by_chance(order, 9, 3)
            back = numbers_back(other, point)
            self.assertEqual(point_of(other, back), point)
            again = numbers_back(disc, point)
            self.assertEqual(region_numbers(disc, again), region_numbers(disc, numbers))
            self.assertIsNotNone(rescaling_between(disc, numbers, again))

    def test_numbers_along_ways(self):
        for order in ORDERS[::8]:
            one, other = thin_by_chance(order, 1, 4), thin_by_chance(order, 2, 4)
            numbers = numbers_for(one, 2)
            point = point_of(one, numbers)
            try:
                way = way_between(one, other)
            except TooMany:
                continue
            bench = Bench(one)
            for tie, number in numbers.items():
                bench.put_number(tie, number)
            for move in way:
                bench.move(move)
            self.assertEqual((bench.point, are_same(bench.disc, other)), (point, True))

    def test_matrices(self):
        # [0.20]
        for order in ORDERS[::3]:
            point = point_of(disc_of(order), numbers_for(disc_of(order), 4))
            matrix = matrix_of_point(order, point)
            self.assertEqual((is_told(matrix), point_of_matrix(matrix)), (True, point))
            self.assertEqual(len(numbers_of(steps_of(order), point)), order.size)
            self.assertEqual(order_of_matrix(turned_matrix(matrix)), order.turned(1))
            if max(map(abs, [number for column in matrix for number in column] or [0])) < 10 ** 50:
                for index in range(1, order.many):
                    behind = order_of_matrix(with_bridge(matrix, index, 1))
                    self.assertEqual(behind, order_of(bridged(disc_of(order), index)))
        self.assertEqual(minors(((1, 0), (0, 1))), {(1, 2): 1})

    def test_below(self):
        # [0.21]
        for order in ORDERS[5:60:4]:
            for other in ORDERS[5:60:3]:
                if order.many == other.many and order.level == other.level:
                    told = set(sets_of(order)) <= set(sets_of(other))
                    self.assertIs(is_below(order, other), told)
                    self.assertEqual(ties_for(disc_of(other), order) is not None, told)


class FalseStatements(unittest.TestCase):
    # [0.22]
    def test_equally_many_pairings(self):
        black = dual_disc(STAR)
        self.assertEqual(count_pairings(black), count_pairings(STAR))
        self.assertNotEqual(order_of(black), order_of(STAR))

    def test_trails_of_each_disc(self):
        self.assertEqual((trail_ends(DOUBLE), order_of(DOUBLE).ends), ((1, 2), (2, 1)))

    def test_trails_that_do_not_meet_themselves(self):
        found = []
        for disc in discs_by_chance(400, 20):
            if not is_thin(disc) and not round_trails(disc):
                walks = [[tie for tie, _ in trail(disc, at)] for at in range(1, disc.many + 1)]
                if all(len(set(walk)) == len(walk) for walk in walks):
                    found.append(disc)
        self.assertTrue(found)

    def test_one_tie_left_out(self):
        drops = set()
        disc = disc_of(top_order(4, 2))
        for tie in disc.ties:
            drops.add(4 - order_of(left_out(disc, (tie,))).size)
        self.assertGreater(max(drops), 1)

    def test_let_sets_that_are_no_labels(self):
        order = Order((2, 5, 4, 7))
        labels = {label for collection in each_collection(order) for label in collection}
        self.assertEqual(set(sets_of(order)) - labels, {(2, 4)})

    def test_equal_ends(self):
        one, other = Order((1,)), Order((2,))
        self.assertEqual(one.ends, other.ends)
        self.assertNotEqual(sets_of(one), sets_of(other))

    def test_numbers_of_places(self):
        self.assertNotEqual(len(SQUARE.places), len(moved(SQUARE, ("put", 1)).places))

    def test_numbers_of_discs_that_are_not_thin(self):
        one, other = {"p": 1, "q": 1, "e": 1, "f": 2}, {"p": 1, "q": 1, "e": 2, "f": 1}
        self.assertEqual(point_of(DOUBLE, one), point_of(DOUBLE, other))
        self.assertIsNone(rescaling_between(DOUBLE, one, other))


class Names(unittest.TestCase):
    def test_names_mean_nothing(self):
        for disc in MANY[::4]:
            other = renamed_by_chance(disc, 3)
            self.assertEqual((order_of(other), is_thin(other), count_pairings(other)), (order_of(disc), is_thin(disc), count_pairings(disc)))
            self.assertIs(are_same(disc, other), True)
            self.assertEqual(shortened(other).named_anew, shortened(disc).named_anew)
            self.assertEqual(len(list(each_move(other))), len(list(each_move(disc))))

    def test_moved_numbers_keep_the_point(self):
        for disc in MANY[::6]:
            numbers = numbers_for(disc, 1)
            for move in list(each_move(disc))[::6]:
                self.assertEqual(point_of(moved(disc, move), moved_numbers(disc, numbers, move)), point_of(disc, numbers))


class Kinds(unittest.TestCase):
    def test_objects_that_cannot_be_iterated_or_compared(self):
        for value in (SQUARE, top_order(2, 1), diagram_of(top_order(2, 1)), Bench(SQUARE)):
            for call in (lambda value: value < value, lambda value: value + value, lambda value: value[0:1] if isinstance(value, Disc) else value - 1):
                self.assertRaises(TypeError, call, value)
            self.assertEqual((value == value, value != value, value == 1, value != 1), (True, False, False, True))


if __name__ == "__main__":
    unittest.main()
