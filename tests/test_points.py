"""[14.1] to [14.6]: numbers of discs, points, rescaling, numbers of regions, and numbers behind moves."""

import itertools
import math
import random
import unittest
from fractions import Fraction

from rimtrails.base.discs import Disc
from rimtrails.base.trails import regions_of
from rimtrails.build.bridges import bare_disc, disc_of
from rimtrails.errors import (InvalidDisc, InvalidMove, InvalidNumber, InvalidNumbers, InvalidOperation, InvalidPoint,
                              TooMany, UnknownName)
from rimtrails.order.necklaces import order_of, sets_of
from rimtrails.order.orders import Order, each_order, top_order
from rimtrails.pair.pairings import each_pairing, let_sets, set_of_pairing
from rimtrails.point import points
from rimtrails.point.points import (failing_relation, is_point, moved_numbers, point_of, region_numbers, rescaled,
                                    rescaling_between, told_numbers)
from rimtrails.thin.faults import is_thin
from rimtrails.thin.moves import each_move, moved
from tests.many_discs import discs_by_chance, grid, orders_by_chance, thin_by_chance
from tests.refusals import check_arguments, check_judge, check_refused, check_unchanged, no_discs, no_orders, not_one_of
from tests.samples import DOUBLE, LINE, SQUARE, STAR, is_hashable, wrong_values

SOME = {"e": 2, "f": 1, "g": 3, "h": 1, "p": 1, "q": 1, "r": 1, "s": 1}
ONES = {tie: 1 for tie in SQUARE.ties}
TOP = Order((3, 4, 5, 6))
MANY = discs_by_chance(120)
THIN = [disc for disc in MANY if is_thin(disc)]
THIN += [thin_by_chance(order, 4) for many in range(3, 8) for order in orders_by_chance(many, 4)]
TALL = grid(5, 6, [0, 2, 5, 8, 10, 13, 16, 19])
LONGEST = 10 ** 60 - 1


def numbers_for(disc, seed=0, most=9):
    chance = random.Random(seed)
    return {tie: chance.randint(1, most) for tie in disc.ties}


def told_told(disc, numbers):
    """By the words of [14.1]."""
    told = {chosen: 0 for chosen in let_sets(disc)}
    for pairing in each_pairing(disc):
        told[set_of_pairing(disc, pairing)] += math.prod(numbers[tie] for tie in pairing)
    return told


def failing_told(order, told):
    """All relations that are not true, by the words of [14.2]."""
    found = []
    places = range(1, order.many + 1)

    def number(*some):
        return told.get(tuple(sorted(some)), 0)
    for size in range(max(0, order.level - 2), order.level - 1):
        for base in itertools.combinations(places, size):
            for a, b, c, d in itertools.combinations([place for place in places if place not in base], 4):
                one = number(*base, a, c) * number(*base, b, d)
                if one != number(*base, a, b) * number(*base, c, d) + number(*base, a, d) * number(*base, b, c):
                    found.append((base, a, b, c, d))
    return found


def region_number_told(disc, numbers, region):
    """By the words of [14.5]."""
    product = Fraction(1)
    for tie, end in region:
        start = next(one for one in disc.ends_of(tie) if one != end)
        inner = end if isinstance(end, str) else start
        is_black = disc.colour(inner) == "black"
        to_black = is_black if isinstance(end, str) else not is_black
        product *= Fraction(numbers[tie]) if to_black else Fraction(1, numbers[tie])
    return product.numerator, product.denominator


def moved_told(disc, numbers, move):
    """By the words of [14.6], and by those of [11.1] for what is new."""
    behind = moved(disc, move)
    told = {tie: numbers[tie] for tie in behind.ties if tie in numbers}
    news = sorted((tie for tie in behind.ties if tie not in numbers), key=lambda tie: (len(tie), tie))
    if move[0] == "draw":
        first, last = disc.round_of(move[1])
        for own, far in ((first, last), (last, first)):
            end = next(end for end in disc.ends_of(own) if end != move[1])
            if isinstance(end, int):
                told[own] = numbers[far]
            else:
                for tie in disc.round_of(end):
                    if tie != own:
                        told[tie] *= numbers[far]
    elif move[0] == "pull":
        told.update({tie: 1 for tie in news})
    elif move[0] == "put":
        tie = disc.rim[move[1] - 1]
        told.update({news[0]: numbers[tie], tie: 1})
    else:
        walk = next(region for region in regions_of(disc) if sorted(tie for tie, _ in region) == list(move[1]))
        w, x, y, z = [numbers[tie] for tie, _ in walk]
        total = w * y + x * z
        for leg in news[:4]:
            new = next(end for end in behind.ends_of(leg) if end not in disc.places)
            told[leg] = total if behind.colour(new) == "black" else 1
        old_at = {new: old for leg in news[:4] for old in behind.ends_of(leg) if old in disc.places
                  for new in behind.ends_of(leg) if new not in disc.places}
        for side in news[4:]:
            corners = {old_at[new] for new in behind.ends_of(side)}
            far = next(tie for tie, _ in walk if not set(disc.ends_of(tie)) & corners)
            told[side] = numbers[far]
    return told


def chain(digons):
    """A disc with one rim place and as many pairings as the product of these numbers: so many ties side by side, in a row."""
    lines = ["rim p"]
    before = "p"
    for letter, many in zip("abc", digons):
        ties = [letter + "abcdefghijklmnopqrstuvwxyz"[at] for at in range(many)]
        lines.append(" ".join(["black", "b" + letter, before, *ties]))
        before = "z" + letter
        lines.append(" ".join(["white", "w" + letter, *([before] if letter != "c" else []), *reversed(ties)]))
    return Disc.from_lines(*lines)


class Examples(unittest.TestCase):
    def test_told_numbers(self):
        told = {(1, 2): 1, (1, 3): 1, (1, 4): 3, (2, 3): 2, (2, 4): 7, (3, 4): 1}
        self.assertEqual([told_numbers(SQUARE, SOME), point_of(SQUARE, SOME) == told_numbers(SQUARE, SOME)], [told, True])

    def test_rescaling(self):
        twice = rescaled(SQUARE, SOME, "a", (2, 1))
        told = [twice, told_numbers(SQUARE, twice)[(2, 4)], point_of(SQUARE, twice)[(2, 4)], rescaling_between(SQUARE, SOME, twice)]
        self.assertEqual(told, [{"e": 4, "f": 1, "g": 3, "h": 2, "p": 2, "q": 1, "r": 1, "s": 1}, 14, 7,
                                {"a": (2, 1), "b": (1, 1), "c": (1, 1), "d": (1, 1)}])
        self.assertEqual([region_numbers(SQUARE, SOME) == region_numbers(SQUARE, twice), sorted(region_numbers(SQUARE, SOME)),
                          rescaling_between(SQUARE, SOME, {**SOME, "e": 1})], [True, [(1, 1), (1, 1), (1, 6), (2, 1), (3, 1)], None])

    def test_points(self):
        bent = {**told_numbers(SQUARE, SOME), (2, 4): 6}
        twice = rescaled(SQUARE, SOME, "a", (2, 1))
        told = [is_point(TOP, point_of(SQUARE, SOME)), is_point(TOP, bent), failing_relation(TOP, bent),
                failing_relation(TOP, told_numbers(SQUARE, twice))]
        self.assertEqual(told, [True, False, ((), 1, 2, 3, 4), None])

    def test_moves(self):
        told = [point_of(moved(SQUARE, move), moved_numbers(SQUARE, SOME, move)) == point_of(SQUARE, SOME) for move in each_move(SQUARE)]
        self.assertEqual((told.count(False), len(told)), (0, 29))


class ToldNumbers(unittest.TestCase):
    def test_by_all_pairings(self):
        for disc in (*MANY, *THIN):
            numbers = numbers_for(disc)
            told = told_told(disc, numbers)
            self.assertEqual(told_numbers(disc, numbers), told)
            self.assertEqual(list(told_numbers(disc, numbers)), list(let_sets(disc)))
            divisor = math.gcd(*told.values())
            point = point_of(disc, numbers)
            self.assertEqual(point, {chosen: number // divisor for chosen, number in told.items()})
            self.assertEqual(list(point), list(let_sets(disc)))
            self.assertIs(is_point(order_of(disc), point), True)

    def test_long_integers(self):
        for disc in (SQUARE, DOUBLE, STAR):
            numbers = {tie: LONGEST - at for at, tie in enumerate(disc.ties)}
            self.assertEqual(told_numbers(disc, numbers), told_told(disc, numbers))
            point = point_of(disc, numbers)
            self.assertGreater(max(point.values()), 0)
            self.assertIs(is_point(order_of(disc), point), True)
        self.assertGreater(max(told_numbers(SQUARE, {tie: LONGEST for tie in SQUARE.ties}).values()), 10 ** 200)

    def test_too_many_pairings(self):
        for function in (told_numbers, point_of):
            with self.assertRaises(TooMany) as caught:
                function(TALL, numbers_for(TALL))
            self.assertEqual(caught.exception.limit, 5000)
            check_refused(self, InvalidNumbers, None, function, TALL, {})
        disc = chain((20, 25, 10))
        self.assertEqual(told_numbers(disc, {tie: 1 for tie in disc.ties}), {(1,): 5000})
        self.assertEqual(point_of(disc, {tie: 1 for tie in disc.ties}), {(1,): 1})
        disc = chain((21, 24, 10))
        check_refused(self, TooMany, None, told_numbers, disc, {tie: 1 for tie in disc.ties})

    def test_the_order_of_the_keys_does_not_matter(self):
        self.assertEqual(told_numbers(SQUARE, dict(reversed(SOME.items()))), told_numbers(SQUARE, SOME))

    def test_a_returned_dict_is_free(self):
        told = told_numbers(SQUARE, SOME)
        told.clear()
        self.assertEqual(len(told_numbers(SQUARE, SOME)), 6)
        again = rescaled(SQUARE, SOME, "a", (1, 1))
        again["e"] = 5
        self.assertEqual(SOME["e"], 2)


class Points(unittest.TestCase):
    def test_relations(self):
        for order in [*orders_by_chance(4, 10), *orders_by_chance(5, 10), *orders_by_chance(6, 8), top_order(6, 3), top_order(8, 4)]:
            chance = random.Random(7)
            for most in (1, 2, 9):
                told = {chosen: chance.randint(1, most) for chosen in sets_of(order)}
                failing = failing_told(order, told)
                found = failing_relation(order, told)
                self.assertTrue(found in failing if failing else found is None, (order.numbers, told))
                self.assertIs(is_point(order, told), not failing and math.gcd(*told.values()) == 1)

    def test_of_discs_of_all_orders_of_few(self):
        for order in [order for many in range(1, 5) for order in each_order(many)]:
            disc = disc_of(order)
            point = point_of(disc, numbers_for(disc, 3))
            self.assertIs(is_point(order, point), True)
            self.assertIsNone(failing_relation(order, point))

    def test_near_points(self):
        for order, disc in ((TOP, SQUARE), (Order((2, 3)), LINE), (Order((2, 3, 4)), STAR)):
            point = point_of(disc, numbers_for(disc, 5))
            for chosen in point:
                more = {**point, chosen: point[chosen] + 1}
                self.assertIs(is_point(order, more), not failing_told(order, more) and math.gcd(*more.values()) == 1)
                rest = {other: point[other] for other in point if other != chosen}
                self.assertIs(is_point(order, rest), False)
                self.assertIs(is_point(order, {**rest, chosen: 0}), False)
                self.assertIs(is_point(order, {**rest, chosen: -point[chosen]}), False)
                self.assertIs(is_point(order, {**rest, list(chosen)[0]: point[chosen]}), False)
                self.assertIs(is_point(order, {**rest, (True, *chosen[1:]): point[chosen]}), False)
            self.assertIs(is_point(order, {**point, (1, 2, 3): 1}), False)
            self.assertIs(is_point(order, {**point, None: 1}), False)
            twice = {chosen: 2 * number for chosen, number in point.items()}
            self.assertIs(is_point(order, twice), False)
            self.assertIsNone(failing_relation(order, twice))
            self.assertIs(is_point(order, dict(reversed(point.items()))), True)

    def test_exchanged_numbers(self):
        point = point_of(SQUARE, {**SOME, "p": 5, "s": 7})
        for one, other in itertools.combinations(point, 2):
            bent = {**point, one: point[other], other: point[one]}
            told = not failing_told(TOP, bent)
            self.assertIs(is_point(TOP, bent), told)

    def test_true_is_not_one(self):
        line = Order((2, 3))
        self.assertIs(is_point(line, {(1,): 1, (2,): 1}), True)
        for value in (True, 1.0, "1", None, (1,), [1], 0, -1):
            self.assertIs(is_point(line, {(1,): 1, (2,): value}), False)
        self.assertIs(is_point(line, {(True,): 1, (2,): 1}), False)

    def test_values_of_other_kinds(self):
        for value in (*wrong_values(), (), {}, 1, "a", [((1,), 1), ((2,), 1)]):
            self.assertIs(is_point(Order((2, 3)), value), False, value)
            if is_hashable(value):
                self.assertIs(is_point(Order((2, 3)), {(1,): 1, value: 1}), False, value)
            told = isinstance(value, int) and not isinstance(value, bool) and value >= 1
            self.assertIs(is_point(Order((2, 3)), {(1,): 1, (2,): value}), told, value)

    def test_judged_near_one(self):
        check_judge(self, lambda value: is_point(Order((1, 4)), value), [{(2,): 1}])

    def test_integers_of_any_length(self):
        line = Order((2, 3))
        long = {(1,): 10 ** 99 + 1, (2,): 10 ** 99}
        self.assertIs(is_point(line, long), True)
        check_refused(self, InvalidPoint, None, failing_relation, line, long)
        self.assertIsNone(failing_relation(line, {(1,): LONGEST, (2,): LONGEST}))
        check_refused(self, InvalidPoint, None, failing_relation, line, {(1,): LONGEST + 1, (2,): 1})

    def test_relations_without_any_place(self):
        # S is () here, which is no let set; sets of the levels 0 and 1 have no relations.
        self.assertEqual(failing_relation(TOP, {chosen: 1 for chosen in sets_of(TOP)}), ((), 1, 2, 3, 4))
        for level in (0, 1, 3, 4):
            order = top_order(4, level)
            told = {chosen: 5 + at for at, chosen in enumerate(sets_of(order))}
            self.assertIsNone(failing_relation(order, told))
            self.assertIs(is_point(order, told), level in (1, 3))

    def test_sets_that_are_not_let_count_nothing(self):
        order = Order((3, 5, 4, 6))
        told = {chosen: 1 for chosen in sets_of(order)}
        self.assertEqual([chosen for chosen in itertools.combinations(range(1, 5), 2) if chosen not in told], [(3, 4)])
        self.assertIs(is_point(order, told), True)
        self.assertEqual(failing_relation(order, {**told, (1, 4): 2}), ((), 1, 2, 3, 4))
        self.assertIsNone(failing_relation(order, {**told, (1, 2): 2}))


class Rescaling(unittest.TestCase):
    def test_by_fractions(self):
        chance = random.Random(11)
        done = {True: 0, False: 0}
        for disc in (*MANY[:60], *THIN):
            numbers = numbers_for(disc, 2, 12)
            for place in disc.places:
                top, bottom = chance.choice([(1, 1), (2, 1), (1, 2), (3, 2), (2, 3), (10 ** 59, 1), (5, 4)])
                told = {tie: Fraction(numbers[tie] * top, bottom) if tie in disc.round_of(place) else numbers[tie] for tie in disc.ties}
                if all(Fraction(number).denominator == 1 for number in told.values()):
                    found = rescaled(disc, numbers, place, (top, bottom))
                    self.assertEqual(found, {tie: int(number) for tie, number in told.items()})
                    self.assertEqual(list(found), list(disc.ties))
                    done[True] += 1
                else:
                    check_refused(self, InvalidOperation, None, rescaled, disc, numbers, place, (top, bottom))
                    done[False] += 1
        self.assertGreater(min(done.values()), 20)

    def test_it_multiplies_all_told_numbers(self):
        for disc in MANY[:40]:
            numbers = numbers_for(disc)
            for place in disc.places:
                other = rescaled(disc, numbers, place, (3, 1))
                self.assertEqual(told_numbers(disc, other), {chosen: 3 * number for chosen, number in told_numbers(disc, numbers).items()})
                self.assertEqual(point_of(disc, other), point_of(disc, numbers))

    def test_a_result_can_be_long(self):
        numbers = {tie: LONGEST for tie in LINE.ties}
        self.assertEqual(rescaled(LINE, numbers, "b", (10, 1)), {"p": 10 * LONGEST, "q": 10 * LONGEST})
        check_refused(self, InvalidNumbers, None, rescaled, LINE, rescaled(LINE, numbers, "b", (10, 1)), "b", (1, 1))

    def test_factors_between_numbers(self):
        for disc in (*MANY, *THIN):
            chance = random.Random(len(disc))
            one = {tie: number * 6 for tie, number in numbers_for(disc, 1).items()}
            other, wanted = dict(one), {place: (1, 1) for place in disc.places}
            for place in disc.places:
                factor = chance.choice([(2, 1), (3, 1), (1, 1), (5, 1), (1, 2)])
                if all(other[tie] * factor[0] % factor[1] == 0 for tie in disc.round_of(place)):
                    other = rescaled(disc, other, place, factor)
                    wanted[place] = factor
            self.assertEqual(rescaling_between(disc, one, other), wanted)
            self.assertEqual(list(rescaling_between(disc, one, other)), list(disc.places))
            self.assertEqual(region_numbers(disc, one), region_numbers(disc, other))
            back = rescaling_between(disc, other, one)
            self.assertEqual(back, {place: (bottom, top) for place, (top, bottom) in wanted.items()})

    def test_there_are_none_exactly_if_the_numbers_of_regions_differ(self):
        found = set()
        for disc in (*MANY, *THIN):
            for seed in range(4):
                one, other = numbers_for(disc, seed, 2), numbers_for(disc, seed + 10, 2)
                told = rescaling_between(disc, one, other) is not None
                self.assertEqual(region_numbers(disc, one) == region_numbers(disc, other), told)
                if is_thin(disc):
                    self.assertEqual(point_of(disc, one) == point_of(disc, other), told)
                elif told:
                    self.assertEqual(point_of(disc, one), point_of(disc, other))
                found.add(told)
        self.assertEqual(found, {True, False})

    def test_equal_points_without_factors_on_discs_that_are_not_thin(self):
        one, other = {"p": 1, "q": 1, "e": 1, "f": 2}, {"p": 1, "q": 1, "e": 2, "f": 1}
        self.assertEqual(point_of(DOUBLE, one), point_of(DOUBLE, other))
        self.assertIsNone(rescaling_between(DOUBLE, one, other))

    def test_long_factors(self):
        one = {tie: 1 for tie in SQUARE.ties}
        other = {**one, "p": LONGEST, "e": LONGEST, "h": LONGEST}
        self.assertEqual(rescaling_between(SQUARE, one, other)["a"], (LONGEST, 1))


class RegionNumbers(unittest.TestCase):
    def test_by_the_words(self):
        for disc in (*MANY, *THIN):
            numbers = numbers_for(disc, 8)
            found = region_numbers(disc, numbers)
            self.assertEqual(found, tuple(region_number_told(disc, numbers, region) for region in regions_of(disc)))
            product = math.prod(Fraction(*number) for number in found)
            self.assertEqual(product, 1)

    def test_told_at_the_rim(self):
        # Round the region ahead of rim place 1 one walks from white to the rim, and from there to black places.
        self.assertEqual(region_numbers(STAR, {"p": 2, "q": 3, "r": 5}), ((2, 5), (3, 2), (5, 3)))
        self.assertEqual(region_numbers(LINE, {"p": 2, "q": 3}), ((3, 2), (2, 3)))
        self.assertEqual(region_numbers(bare_disc(("black", "white")), {"a": 2, "b": 3}), ((1, 1),))


class MovedNumbers(unittest.TestCase):
    def test_by_the_words(self):
        kinds = set()
        for disc in (*MANY[:50], *THIN[::2]):
            numbers = numbers_for(disc, 6)
            for move in each_move(disc):
                found = moved_numbers(disc, numbers, move)
                self.assertEqual(found, moved_told(disc, numbers, move), (disc.lines, move))
                self.assertEqual(tuple(found), moved(disc, move).ties)
                kinds.add(move[0])
        self.assertEqual(kinds, {"draw", "pull", "put", "square"})

    def test_they_tell_the_same_point(self):
        for disc in (*MANY[:30], *THIN[::3]):
            numbers = numbers_for(disc, 6)
            told, point = told_numbers(disc, numbers), point_of(disc, numbers)
            for move in each_move(disc):
                behind = told_numbers(moved(disc, move), moved_numbers(disc, numbers, move))
                self.assertEqual(point_of(moved(disc, move), moved_numbers(disc, numbers, move)), point)
                if move[0] != "square":
                    self.assertEqual(behind, told)

    def test_a_square_multiplies_all_told_numbers(self):
        numbers = {"e": 2, "f": 3, "g": 5, "h": 7, "p": 1, "q": 1, "r": 1, "s": 1}
        move = ("square", ("e", "f", "g", "h"))
        self.assertEqual(told_numbers(moved(SQUARE, move), moved_numbers(SQUARE, numbers, move)),
                         {chosen: 31 * number for chosen, number in told_numbers(SQUARE, numbers).items()})

    def test_numbers_can_become_long(self):
        numbers = {tie: LONGEST for tie in SQUARE.ties}
        self.assertEqual(max(moved_numbers(SQUARE, numbers, ("square", ("e", "f", "g", "h"))).values()), 2 * LONGEST ** 2)


class WrongArguments(unittest.TestCase):
    def setUp(self):
        self.no_numbers = not_one_of((), InvalidNumbers)
        self.no_numbers[1].extend([{**SOME, "e": 0}, {**SOME, "e": -1}, {**SOME, "e": True}, {**SOME, "e": 10 ** 60}, {**SOME, "e": "1"},
                                   {**SOME, "e": (1, 1)}, {**SOME, "x": 1}, {tie: 1 for tie in "efghpqr"}, list(SOME.items()),
                                   {**{tie: 1 for tie in "efghpqr"}, "x": 1}, {**{tie: 1 for tie in "efghpqr"}, None: 1}])

    def test_of_each_function(self):
        for function in (told_numbers, point_of, region_numbers):
            check_arguments(self, function, (SQUARE, SOME), [no_discs(), self.no_numbers])
        no_places = UnknownName, [value for value in not_one_of(["a"], UnknownName)[1]] + ["e", "nosuch", ("a",)]
        no_factors = InvalidNumber, [*not_one_of((), InvalidNumber)[1], (0, 1), (-1, 1), (2, 4), (1, 0), (1, -1), (True, 1), [1, 1], (1,),
                                     (10 ** 60, 1), (1, 10 ** 60), (1, 1, 1)]
        check_arguments(self, rescaled, (SQUARE, SOME, "a", (1, 1)), [no_discs(), self.no_numbers, no_places, no_factors])
        check_refused(self, UnknownName, "x", rescaled, SQUARE, SOME, "x", (1, 2))
        check_arguments(self, rescaling_between, (SQUARE, SOME, ONES), [no_discs(), self.no_numbers, self.no_numbers])
        no_moves = not_one_of((), InvalidMove)
        no_moves[1].extend([("put", True), ("put", 0), ["put", 1], ("draw", "a")])
        check_arguments(self, moved_numbers, (SQUARE, SOME, ("put", 1)), [no_discs(), self.no_numbers, no_moves])

    def test_orders(self):
        no_points = not_one_of((), InvalidPoint)
        no_points[1].extend([{(1,): 1}, {(1,): 1, (2,): 0}, {(1,): 1, (2,): True}, {(1,): 1, (2,): 1, (1, 2): 1}, {(1,): 1, 2: 1}])
        check_arguments(self, failing_relation, (Order((2, 3)), {(1,): 1, (2,): 1}), [no_orders(), no_points])
        check_arguments(self, is_point, (Order((2, 3)), None), [no_orders()])

    def test_which_error_comes_first(self):
        check_refused(self, InvalidDisc, None, told_numbers, None, None)
        check_refused(self, InvalidNumbers, None, rescaled, SQUARE, {}, "x", None)
        check_refused(self, InvalidNumber, None, rescaled, SQUARE, SOME, "b", None)
        check_refused(self, InvalidOperation, None, rescaled, SQUARE, SOME, "b", (1, 3))
        check_refused(self, InvalidMove, None, moved_numbers, TALL, numbers_for(TALL), None)

    def test_what_is_passed_stays_as_it_was(self):
        some = dict(reversed(SOME.items()))
        for function in (lambda numbers: told_numbers(SQUARE, numbers), lambda numbers: point_of(SQUARE, numbers),
                         lambda numbers: rescaled(SQUARE, numbers, "a", (2, 1)), lambda numbers: region_numbers(SQUARE, numbers),
                         lambda numbers: rescaling_between(SQUARE, numbers, ONES),
                         lambda numbers: [moved_numbers(SQUARE, numbers, move) for move in each_move(SQUARE)]):
            check_unchanged(self, some, function)
        check_unchanged(self, {(2,): 1, (1,): 3}, lambda point: is_point(Order((2, 3)), point))
        check_unchanged(self, {(2,): 2, (1,): 4}, lambda point: failing_relation(Order((2, 3)), point))

    def test_the_functions_are_defined_in_their_module(self):
        for function in (told_numbers, point_of, is_point, failing_relation, rescaled, rescaling_between, region_numbers, moved_numbers):
            self.assertEqual(function.__module__, points.__name__)


if __name__ == "__main__":
    unittest.main()
