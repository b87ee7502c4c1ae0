"""[15.1] to [15.5]: matrices, their orders and points, and numbers back from points."""

import itertools
import math
import random
import unittest
from fractions import Fraction

from rimtrails.base.words import is_fraction, is_integer
from rimtrails.build.bridges import bare_disc, disc_by, disc_of, order_by, steps_of
from rimtrails.errors import (InvalidDisc, InvalidMatrix, InvalidNumber, InvalidOperation, InvalidOrder, InvalidPoint)
from rimtrails.order.necklaces import order_of, sets_of
from rimtrails.order.orders import Order, each_order, top_order
from rimtrails.pair.pairings import each_pairing, let_sets, set_of_pairing
from rimtrails.point import matrices
from rimtrails.point.matrices import (is_matrix, is_told, matrix_of_point, minors, negative_set, numbers_back, numbers_of,
                                      order_of_matrix, point_of_matrix, rank_between, turned_matrix, with_bridge,
                                      with_new_row, with_zeros)
from rimtrails.point.points import is_point, point_of, rescaling_between
from tests.many_discs import orders_by_chance, thin_by_chance
from tests.refusals import check_arguments, check_refused, no_discs, no_numbers, no_orders, not_one_of
from tests.samples import DOUBLE, HUNG, LINE, SQUARE, STAR, wrong_values

SHOWN = ((1, 0), (0, 1), (-2, 1), (-7, 3))
FEW = [order for many in range(1, 5) for order in each_order(many)]
MORE = [order for many in range(5, 9) for order in orders_by_chance(many, 6)] + [top_order(7, 3), top_order(8, 4)]
LONGEST = 10 ** 60 - 1


def determinant_told(columns):
    """By all orders of the rows."""
    total = 0
    for rows in itertools.permutations(range(len(columns))):
        turns = sum(1 for one, other in itertools.combinations(rows, 2) if one > other)
        total += (-1) ** turns * math.prod(column[row] for column, row in zip(columns, rows))
    return total


def rank_told(columns):
    """The greatest number of rows and columns with a determinant that is not 0."""
    rows = len(columns[0]) if columns else 0
    for size in range(min(rows, len(columns)), 0, -1):
        for some in itertools.combinations(columns, size):
            for chosen in itertools.combinations(range(rows), size):
                if determinant_told([[column[row] for row in chosen] for column in some]):
                    return size
    return 0


def order_told(matrix):
    """By the words of [15.3], with column j - n for column j."""
    many = len(matrix)

    def rank(first, last):
        return rank_told([matrix[(at - 1) % many] for at in range(first, last + 1)])
    numbers = []
    for index in range(1, many + 1):
        numbers.append(next(last for last in range(index, index + many + 1) if rank(index, last) == rank(index + 1, last)))
    return tuple(numbers)


def matrices_by_chance(many, level, count, most=3):
    """So many matrices, told or not."""
    chance = random.Random(100 * many + 10 * level + most)
    found = []
    while len(found) < count:
        columns = [tuple(chance.choice((0, 0, chance.randint(-most, most))) for _ in range(level)) for _ in range(many)]
        for at in range(1, many):
            if chance.randrange(4) == 0:
                columns[at] = tuple(chance.choice((0, 1, -2)) * number for number in columns[at - 1])
        if rank_told(columns) == level:
            found.append(tuple(columns))
    return found


def told_by_steps(steps, chance):
    """A told matrix by [15.4] and [15.5], with a number for each bridge, and these numbers."""
    matrix = None
    numbers = []
    for word, index in steps:
        if word == "bridge":
            numbers.append(chance.randint(1, 5))
            matrix = with_bridge(matrix, index, numbers[-1])
        elif matrix is None:
            matrix = ((),) if word == "black" else ((1,),)
        else:
            matrix = with_zeros(matrix, index) if word == "black" else with_new_row(matrix, index)
    return matrix, tuple(numbers)


def told_by_chance(order, seed=0):
    return told_by_steps(steps_of(order), random.Random(seed))[0]


def told_of(disc, numbers):
    """The told numbers, also for long ones."""
    told = {}
    for pairing in each_pairing(disc):
        chosen = set_of_pairing(disc, pairing)
        told[chosen] = told.get(chosen, 0) + math.prod(numbers[tie] for tie in pairing)
    divisor = math.gcd(*told.values())
    return {chosen: number // divisor for chosen, number in told.items()}


class Examples(unittest.TestCase):
    def test_minors_and_ranks(self):
        told = [minors(SHOWN), is_told(SHOWN), order_of_matrix(SHOWN).numbers, rank_between(SHOWN, 4, 5),
                negative_set(((1, 0), (0, 1), (1, 0)))]
        self.assertEqual(told, [{(1, 2): 1, (1, 3): 1, (1, 4): 3, (2, 3): 2, (2, 4): 7, (3, 4): 1}, True, (3, 4, 5, 6), 2, (2, 3)])

    def test_orders(self):
        told = [order_of_matrix(matrix).numbers for matrix in (((0,), (1,), (3,)), ((), ()), ((1, 0), (2, 0), (0, 1)))]
        self.assertEqual(told, [(1, 3, 5), (1, 2), (2, 4, 6)])

    def test_changes(self):
        told = [with_new_row(((1,), (2,)), 2), with_bridge(((1, 0), (0, 1)), 1, 3), turned_matrix(((1, 0), (0, 1), (-2, 1))),
                point_of_matrix(((2, 0), (4, 0), (0, 3)))]
        self.assertEqual(told, [((1, 0), (0, 1), (-2, 0)), ((1, 0), (3, 1)), ((2, -1), (1, 0), (0, 1)), {(1, 3): 1, (2, 3): 2}])

    def test_back_from_points(self):
        told = [numbers_of(steps_of(Order((2, 3))), {(1,): 1, (2,): 3}), point_of(SQUARE, numbers_back(SQUARE, minors(SHOWN))) == minors(SHOWN)]
        self.assertEqual(told, [((3, 1),), True])


class Judged(unittest.TestCase):
    def test_by_chance(self):
        chance = random.Random(4)
        found = set()
        for _ in range(400):
            many, level = chance.randint(1, 5), chance.randint(0, 5)
            columns = tuple(tuple(chance.choice((0, 0, 1, -1, 2)) for _ in range(level)) for _ in range(many))
            told = level <= many and rank_told(columns) == level
            self.assertIs(is_matrix(columns), told, columns)
            found.add((told, level <= many))
        self.assertEqual(found, {(True, True), (False, True), (False, False)})

    def test_edges(self):
        right = [((),), ((),) * 8, ((1,),), ((0,), (-1,)), ((LONGEST,),), ((1, 0), (0, 1)), tuple((1,) for _ in range(8)),
                 tuple(tuple(int(at == row) for row in range(8)) for at in range(8))]
        for matrix in right:
            self.assertIs(is_matrix(matrix), True, matrix)
        wrong = [(), ((),) * 9, ((0,),), ((1, 2),), ((1, 1), (2, 2)), ((1,), ()), ((), (1,)), ((LONGEST + 1,),), ((True,),), ((1.0,),),
                 [(1,)], ([1],), (1,), 1, tuple((1,) for _ in range(9)), ((1, 0), (0, 1), (1,)), (("1",),), ((None,),)]
        for matrix in (*wrong, *wrong_values(), {}, "a"):
            if repr(matrix) not in [repr(one) for one in right]:
                self.assertIs(is_matrix(matrix), False, matrix)


class Minors(unittest.TestCase):
    def test_of_all_levels(self):
        for many in range(1, 6):
            for level in range(many + 1):
                for matrix in matrices_by_chance(many, level, 8):
                    found = minors(matrix)
                    sets = list(itertools.combinations(range(1, many + 1), level))
                    self.assertEqual(list(found), sets)
                    for chosen in sets:
                        self.assertEqual(found[chosen], determinant_told([matrix[place - 1] for place in chosen]))
                    below = [chosen for chosen in sets if found[chosen] < 0]
                    self.assertIs(is_told(matrix), not below)
                    self.assertTrue(negative_set(matrix) in below if below else negative_set(matrix) is None)

    def test_long_integers(self):
        chance = random.Random(1)
        for _ in range(20):
            matrix = tuple(tuple(chance.randint(-LONGEST, LONGEST) for _ in range(4)) for _ in range(6))
            found = minors(matrix)
            self.assertEqual(found, {chosen: determinant_told([matrix[place - 1] for place in chosen]) for chosen in found})
            self.assertGreater(max(map(abs, found.values())), 10 ** 200)
            self.assertEqual(order_of_matrix(matrix).numbers, tuple(range(5, 11)))

    def test_eight_columns(self):
        one = tuple(tuple(int(at == row) for row in range(8)) for at in range(8))
        self.assertEqual(minors(one), {(1, 2, 3, 4, 5, 6, 7, 8): 1})
        self.assertEqual(minors(one[1::-1] + one[2:]), {(1, 2, 3, 4, 5, 6, 7, 8): -1})
        self.assertEqual(order_of_matrix(one).numbers, tuple(range(9, 17)))

    def test_level_nothing(self):
        self.assertEqual([minors(((), ())), is_told(((), ())), negative_set(((),)), point_of_matrix(((), ()))], [{(): 1}, True, None, {(): 1}])


class Orders(unittest.TestCase):
    def test_by_ranks_once_round(self):
        for many in range(1, 6):
            for level in range(many + 1):
                for matrix in matrices_by_chance(many, level, 8, 2):
                    order = order_of_matrix(matrix)
                    self.assertEqual(order.numbers, order_told(matrix), matrix)
                    self.assertEqual(order.level, level)
                    let = sets_of(order)
                    for chosen, minor in minors(matrix).items():
                        if minor != 0:
                            self.assertIn(chosen, let)

    def test_of_told_matrices_all_let_sets_have_minors(self):
        for order in (*FEW, *MORE):
            matrix = told_by_chance(order)
            self.assertIs(is_told(matrix), True)
            self.assertEqual(order_of_matrix(matrix), order)
            self.assertEqual(tuple(chosen for chosen, minor in minors(matrix).items() if minor), sets_of(order))

    def test_a_matrix_that_is_not_told_can_have_fewer(self):
        matrix = ((1, 0), (0, 1), (1, 0), (0, 1))
        self.assertEqual((is_told(matrix), order_of_matrix(matrix).numbers), (False, (3, 4, 5, 6)))
        self.assertEqual([chosen for chosen, minor in minors(matrix).items() if minor == 0], [(1, 3), (2, 4)])

    def test_ranks(self):
        for many in range(1, 5):
            for level in range(many + 1):
                for matrix in matrices_by_chance(many, level, 4):
                    for first in range(1, many + 1):
                        for last in range(first - 1, first + many):
                            columns = [matrix[(at - 1) % many] for at in range(first, last + 1)]
                            self.assertEqual(rank_between(matrix, first, last), rank_told(columns))
        self.assertEqual([rank_between(SHOWN, 3, 2), rank_between(SHOWN, 1, 0), rank_between(SHOWN, 4, 7), rank_between(SHOWN, 1, 1)],
                         [0, 0, 2, 1])


class Changes(unittest.TestCase):
    def some(self):
        return [told_by_chance(order, 2) for order in (*FEW[::2], *orders_by_chance(5, 8), *orders_by_chance(6, 6), top_order(6, 3), top_order(7, 4))]

    def test_zeros_and_new_rows(self):
        for matrix in self.some():
            order = order_of_matrix(matrix)
            before = minors(matrix)
            for index in range(1, len(matrix) + 2):
                moved = {tuple(place + (place >= index) for place in chosen): minor for chosen, minor in before.items()}
                black, white = with_zeros(matrix, index), with_new_row(matrix, index)
                self.assertEqual(black, (*matrix[:index - 1], (0,) * len(matrix[0]), *matrix[index - 1:]))
                self.assertEqual({chosen: minor for chosen, minor in minors(black).items() if index not in chosen}, moved)
                self.assertTrue(all(minor == 0 for chosen, minor in minors(black).items() if index in chosen))
                wanted = {tuple(sorted((*chosen, index))): minor for chosen, minor in moved.items()}
                self.assertEqual({chosen: minor for chosen, minor in minors(white).items() if index in chosen}, wanted)
                self.assertTrue(all(minor == 0 for chosen, minor in minors(white).items() if index not in chosen))
                self.assertEqual((is_told(black), is_told(white)), (True, True))
                for column in white[:index - 1] + white[index:]:
                    self.assertEqual(column[-1], 0)
                self.assertEqual(order_of_matrix(black).marks[index], "black")
                self.assertEqual(order_of_matrix(white).marks[index], "white")
                self.assertEqual(order_of_matrix(black).size, order.size)

    def test_bridges(self):
        for matrix in self.some():
            order = order_of_matrix(matrix)
            for index in range(1, len(matrix)):
                for number in (0, 1, 7):
                    behind = with_bridge(matrix, index, number)
                    added = tuple(own + number * before for own, before in zip(matrix[index], matrix[index - 1]))
                    self.assertEqual(behind, (*matrix[:index], added, *matrix[index + 1:]))
                    self.assertIs(is_told(behind), True)
                    does_fall = number > 0 and order(index) > order(index + 1)
                    self.assertEqual(order_of_matrix(behind), order.starts_exchanged(index) if does_fall else order)

    def test_bridges_by_integers_below_0(self):
        self.assertEqual(with_bridge(SHOWN, 1, -2), ((1, 0), (-2, 1), (-2, 1), (-7, 3)))
        self.assertEqual(with_bridge(SHOWN, 3, -3), ((1, 0), (0, 1), (-2, 1), (-1, 0)))
        self.assertEqual(with_bridge(((), ()), 1, 5), ((), ()))
        self.assertEqual(with_bridge(((LONGEST,), (LONGEST,)), 1, LONGEST), ((LONGEST,), (LONGEST + LONGEST ** 2,)))

    def test_turned(self):
        for matrix in [*self.some(), ((1,), (2,)), ((),)]:
            order = order_of_matrix(matrix)
            sign = -1 if len(matrix[0]) % 2 == 0 else 1
            behind = turned_matrix(matrix)
            self.assertEqual(behind, (tuple(sign * number for number in matrix[-1]), *matrix[:-1]))
            self.assertIs(is_told(behind), True)
            self.assertEqual(order_of_matrix(behind), order.turned(1))
            many = len(matrix)
            for chosen, minor in minors(matrix).items():
                self.assertEqual(minors(behind)[tuple(sorted(place % many + 1 for place in chosen))], minor)

    def test_by_the_steps(self):
        for order in (*FEW, *MORE):
            matrix, numbers = told_by_steps(steps_of(order), random.Random(6))
            self.assertEqual(order_of_matrix(matrix), order)
            fractions = numbers_of(steps_of(order), point_of_matrix(matrix))
            self.assertEqual(fractions, tuple((number, 1) for number in numbers))

    def test_eight_columns(self):
        matrix = ((1,),) * 8
        for function in (with_zeros, with_new_row):
            for index in (1, 5, 9):
                check_refused(self, InvalidOperation, None, function, matrix, index)
            for index in (0, 10, True, None):
                check_refused(self, InvalidNumber, index, function, matrix, index)
            self.assertEqual(len(function(matrix[:7], 8)), 8)


class Points(unittest.TestCase):
    def test_of_matrices(self):
        for order in (*FEW, *MORE):
            matrix = told_by_chance(order, 3)
            point = point_of_matrix(matrix)
            told = {chosen: minor for chosen, minor in minors(matrix).items() if minor}
            divisor = math.gcd(*told.values())
            self.assertEqual(point, {chosen: minor // divisor for chosen, minor in told.items()})
            self.assertEqual(tuple(point), sets_of(order))
            self.assertIs(is_point(order, point), True)
        self.assertEqual(point_of_matrix(((3, 0), (6, 0), (0, 5))), {(1, 3): 1, (2, 3): 2})

    def test_of_a_matrix_that_is_not_told(self):
        for matrix in (((1,), (-1,)), ((-1,),), ((1, 0), (0, 1), (1, 0))):
            check_refused(self, InvalidOperation, None, point_of_matrix, matrix)

    def check_there_and_back(self, order, point):
        matrix = matrix_of_point(order, point)
        self.assertIs(is_matrix(matrix), True)
        self.assertEqual((is_told(matrix), point_of_matrix(matrix), order_of_matrix(matrix)), (True, point, order))

    def test_there_and_back(self):
        for order in (*FEW, *MORE):
            self.check_there_and_back(order, point_of_matrix(told_by_chance(order, 3)))

    def test_of_numbers_of_discs(self):
        chance = random.Random(9)
        for order in (*FEW[::2], *orders_by_chance(6, 6)):
            disc = thin_by_chance(order, 2)
            self.check_there_and_back(order, point_of(disc, {tie: chance.randint(1, 99) for tie in disc.ties}))

    def test_long_integers(self):
        line = Order((2, 3))
        for point in ({(1,): LONGEST, (2,): LONGEST - 1}, {(1,): 1, (2,): LONGEST}, {(1,): LONGEST, (2,): 1}):
            self.check_there_and_back(line, point)
        point = point_of(SQUARE, {tie: 10 ** 14 + at ** 5 for at, tie in enumerate(SQUARE.ties)})
        self.assertGreater(max(point.values()), 10 ** 40)
        self.assertTrue(all(is_integer(number) for number in point.values()))
        self.check_there_and_back(Order((3, 4, 5, 6)), point)
        too_long = {(1,): 10 ** 60, (2,): 1}
        self.assertIs(is_point(line, too_long), True)
        check_refused(self, InvalidPoint, None, matrix_of_point, line, too_long)
        check_refused(self, InvalidPoint, None, numbers_of, steps_of(line), too_long)
        check_refused(self, InvalidPoint, None, numbers_back, LINE, too_long)


class NumbersOfSteps(unittest.TestCase):
    def check_steps(self, steps, point):
        """The fractions are above 0, and the matrix with them has this point."""
        fractions = numbers_of(steps, point)
        self.assertEqual(len(fractions), sum(1 for word, _ in steps if word == "bridge"))
        for number in fractions:
            self.assertTrue(is_fraction(number) and number[0] > 0)
        matrix = None
        left = list(fractions)
        for word, index in steps:
            if word == "bridge":
                factor = Fraction(*left.pop(0))
                column = tuple(own + factor * before for own, before in zip(matrix[index], matrix[index - 1]))
                matrix = (*matrix[:index], column, *matrix[index + 1:])
            elif matrix is None:
                matrix = ((),) if word == "black" else ((1,),)
            else:
                matrix = with_zeros_told(matrix, index) if word == "black" else with_new_row_told(matrix, index)
        level = len(matrix[0])
        told = {chosen: determinant_told([matrix[place - 1] for place in chosen])
                for chosen in itertools.combinations(range(1, len(matrix) + 1), level)}
        first = min(point)
        self.assertEqual({chosen: number * point[first] for chosen, number in told.items() if number},
                         {chosen: number * told[first] for chosen, number in point.items()})

    def test_minors_are_those_of_the_point(self):
        for order in (*FEW, *MORE[:-2]):
            point = point_of_matrix(told_by_chance(order, 4))
            self.check_steps(steps_of(order), point)
            disc = thin_by_chance(order, 5)
            chance = random.Random(3)
            point = point_of(disc, {tie: chance.randint(1, 20) for tie in disc.ties})
            self.check_steps(steps_of(order), point)

    def test_other_steps_of_one_order(self):
        for some in ((("black", 1), ("white", 1), ("bridge", 1), ("white", 3)), (("white", 1), ("black", 1), ("white", 1), ("bridge", 1))):
            order = order_by(some)
            point = {chosen: 1 for chosen in sets_of(order)}
            self.check_steps(some, point)

    def test_the_last_bridge(self):
        # [15.5]: the number of the set of the necklace at i + 1 by that with i in the place of i + 1.
        point = point_of(SQUARE, {"e": 2, "f": 1, "g": 3, "h": 5, "p": 1, "q": 7, "r": 1, "s": 1})
        order = Order((3, 4, 5, 6))
        self.assertEqual(steps_of(order)[-1], ("bridge", 1))
        wanted = Fraction(point[2, 3], point[1, 3])
        self.assertEqual(numbers_of(steps_of(order), point)[-1], (wanted.numerator, wanted.denominator))

    def test_without_bridges(self):
        self.assertEqual(numbers_of((("white", 1), ("black", 1)), {(2,): 1}), ())

    def test_they_tell_numbers_of_the_disc_by_the_steps(self):
        order = Order((2, 3, 4))
        numbers = numbers_of(steps_of(order), {(1,): 1, (2,): 3, (3,): 6})
        self.assertEqual(len(numbers), 2)
        self.assertEqual(order_of(disc_by(steps_of(order))), order)


def with_zeros_told(matrix, index):
    return (*matrix[:index - 1], (0,) * len(matrix[0]), *matrix[index - 1:])


def with_new_row_told(matrix, index):
    before = [(*column, 0) for column in matrix[:index - 1]]
    behind = [(*(-number for number in column), 0) for column in matrix[index - 1:]]
    return (*before, (*(0 for _ in matrix[0]), 1), *behind)


class NumbersBack(unittest.TestCase):
    def check_back(self, disc, point):
        numbers = numbers_back(disc, point)
        self.assertEqual(tuple(numbers), disc.ties)
        self.assertTrue(all(isinstance(number, int) and number >= 1 for number in numbers.values()))
        self.assertEqual(told_of(disc, numbers), point)
        return numbers

    def test_up_to_rescaling_of_thin_discs(self):
        for order in (*FEW, *MORE):
            for seed in (0, 1):
                chance = random.Random(seed)
                disc = thin_by_chance(order, seed, 5)
                numbers = {tie: chance.randint(1, 9) for tie in disc.ties}
                back = self.check_back(disc, point_of(disc, numbers))
                self.assertIsNotNone(rescaling_between(disc, numbers, back))

    def test_of_points_of_matrices(self):
        for order in (*FEW[::3], *MORE):
            self.check_back(disc_of(order), point_of_matrix(told_by_chance(order, 7)))

    def test_long_integers(self):
        point = {(1,): LONGEST, (2,): LONGEST - 1}
        for disc in (LINE, disc_of(Order((2, 3)))):
            self.check_back(disc, point)
        numbers = {tie: 10 ** 14 + at ** 5 for at, tie in enumerate(SQUARE.ties)}
        self.check_back(SQUARE, point_of(SQUARE, numbers))

    def test_dead_ends_alone(self):
        for marks in (("black",), ("white", "black")):
            disc = bare_disc(marks)
            point = {chosen: 1 for chosen in let_sets(disc)}
            self.assertEqual(numbers_back(disc, point), {tie: 1 for tie in disc.ties})

    def test_which_error_comes_first(self):
        check_refused(self, InvalidDisc, None, numbers_back, None, None)
        for disc in (DOUBLE, HUNG):
            check_refused(self, InvalidPoint, None, numbers_back, disc, None)
            check_refused(self, InvalidOperation, None, numbers_back, disc, point_of(disc, {tie: 1 for tie in disc.ties}))
        check_refused(self, InvalidPoint, None, numbers_back, STAR, {(1,): 1, (2,): 1})


class WrongArguments(unittest.TestCase):
    def setUp(self):
        self.no_matrices = not_one_of([((), )], InvalidMatrix)
        self.no_matrices[1][:] = [value for value in self.no_matrices[1] if not is_matrix(value)]
        self.no_matrices[1].extend([((0,),), ((1, 1), (2, 2)), ((1,), ()), [(1,)], ([1],), ((True,),), ((10 ** 60,),)])

    def test_of_matrices(self):
        for function in (minors, is_told, negative_set, order_of_matrix, turned_matrix, point_of_matrix):
            check_arguments(self, function, (SHOWN,), [self.no_matrices])
        for first in (1, 4):
            wrong = [self.no_matrices, no_numbers(1, 4), no_numbers(first - 1, first + 3)]
            check_arguments(self, rank_between, (SHOWN, first, first), wrong)
        for function in (with_zeros, with_new_row):
            check_arguments(self, function, (SHOWN, 1), [self.no_matrices, no_numbers(1, 5)])
        no_integers = InvalidNumber, [value for value in no_numbers(0, 0)[1] if not is_integer(value)]
        check_arguments(self, with_bridge, (SHOWN, 1, 0), [self.no_matrices, no_numbers(1, 3), no_integers])
        check_refused(self, InvalidNumber, 1, with_bridge, ((1,),), 1, 0)

    def test_of_points(self):
        order, point = Order((2, 3)), {(1,): 1, (2,): 3}
        no_points = not_one_of((), InvalidPoint)
        no_points[1].extend([{(1,): 1}, {(1,): 2, (2,): 2}, {(1,): 1, (2,): 0}, {(1,): 1, (2,): True}, {(1,): 1, (2,): 1, (3,): 1}])
        check_arguments(self, matrix_of_point, (order, point), [no_orders(), no_points])
        no_steps = not_one_of((), InvalidOperation)
        no_steps[1].extend([(), (("bridge", 1),), (("white", 1), ("black", 1), ("bridge", 1)), [("black", 1)]])
        check_arguments(self, numbers_of, (steps_of(order), point), [no_steps, no_points])
        check_arguments(self, numbers_back, (LINE, point), [no_discs(), no_points])
        self.assertRaises(InvalidOrder, matrix_of_point, None, None)

    def test_what_is_passed_stays_as_it_was(self):
        point = {(2,): 3, (1,): 1}
        matrix_of_point(Order((2, 3)), point)
        numbers_of(steps_of(Order((2, 3))), point)
        numbers_back(LINE, point)
        self.assertEqual(list(point.items()), [((2,), 3), ((1,), 1)])
        found = minors(SHOWN)
        found.clear()
        self.assertEqual(len(minors(SHOWN)), 6)

    def test_the_functions_are_defined_in_their_module(self):
        for function in (is_matrix, minors, is_told, negative_set, order_of_matrix, rank_between, with_zeros, with_new_row, with_bridge,
                         turned_matrix, point_of_matrix, matrix_of_point, numbers_of, numbers_back):
            self.assertEqual(function.__module__, matrices.__name__)


if __name__ == "__main__":
    unittest.main()
