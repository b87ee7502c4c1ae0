"""[17.1] to [17.6]: parts of orders, dual and turned discs, and two pairings laid on one another."""

import collections
import itertools
import unittest

from rimtrails.base.discs import Disc
from rimtrails.base.trails import trail
from rimtrails.build.bridges import bare_disc, disc_of
from rimtrails.errors import InvalidDisc, InvalidNumber, InvalidOperation, InvalidOrder, InvalidPairing, InvalidSet
from rimtrails.order.necklaces import order_of, sets_of
from rimtrails.order.orders import Order, each_order, top_order
from rimtrails.pair.pairings import each_pairing, let_sets, set_of_pairing
from rimtrails.part import parts
from rimtrails.part.parts import (dual_disc, is_parting, joined_orders, laid, mirrored_disc, part_order, parts_of, switched,
                                  three_terms, turned_disc)
from rimtrails.thin.faults import is_thin
from tests.many_discs import discs_by_chance, grid, orders_by_chance, thin_by_chance
from tests.refusals import check_arguments, check_judge, check_refused, no_discs, no_numbers, no_orders, not_one_of
from tests.samples import BLACK, DOUBLE, HUNG, LINE, SQUARE, STAR, is_hashable, wrong_values

FEW = [order for many in range(1, 5) for order in each_order(many)]
MANY = discs_by_chance(120)
TWO = Order((2, 5, 4, 7))
RINGS = [disc for disc in MANY if len(disc) > len(disc.places) + disc.many - 1 and len(list(each_pairing(disc))) < 30]


def do_cross_told(one, other):
    for a, b, c, d in itertools.combinations(range(1, 9), 4):
        for first, last in ((one, other), (other, one)):
            if {a, c} <= set(first) and {b, d} <= set(last):
                return True
    return False


def set_partitions(places):
    """All ways to put the places into parts."""
    if not places:
        yield []
        return
    first, rest = places[0], places[1:]
    for some in set_partitions(rest):
        yield [(first,), *some]
        for at in range(len(some)):
            yield [*some[:at], (first, *some[at]), *some[at + 1:]]


def partings_told(order):
    """All partings, by the words of [17.1]."""
    found = []
    for some in set_partitions(tuple(range(1, order.many + 1))):
        some = tuple(sorted(some))
        if any(do_cross_told(*pair) for pair in itertools.combinations(some, 2)):
            continue
        if all(order.ends[place - 1] in part for part in some for place in part):
            found.append(some)
    return sorted(found)


def finest_told(order):
    partings = partings_told(order)
    finest = [one for one in partings if all(any(set(part) <= set(wide) for wide in other) for other in partings for part in one)]
    assert len(finest) == 1
    return finest[0]


class Examples(unittest.TestCase):
    def test_parts(self):
        told = [parts_of(Order((3, 4, 5, 6))), parts_of(TWO), part_order(TWO, (3, 4)).numbers, is_parting(TWO, ((1, 2, 3, 4),))]
        self.assertEqual(told, [((1, 2, 3, 4),), ((1, 2), (3, 4)), (2, 3), True])
        nested = joined_orders(5, (((1, 2, 5), Order((2, 3, 4))), ((3, 4), Order((2, 3)))))
        self.assertEqual([nested.numbers, parts_of(nested), nested.level, nested.size], [(2, 5, 4, 8, 6), ((1, 2, 5), (3, 4)), 2, 3])

    def test_discs(self):
        told = [dual_disc(STAR).lines, mirrored_disc(STAR).lines, turned_disc(STAR, 1).lines]
        self.assertEqual(told, [("rim p q r", "black w p q r"), ("rim r q p", "white w p r q"), ("rim r p q", "white w p q r")])

    def test_pairings(self):
        told = [laid(SQUARE, ("p", "q", "r", "s"), ("e", "g")), laid(SQUARE, ("e", "g"), ("f", "h"))]
        self.assertEqual(told, [((), (), ((1, ("p", "e", "q"), 2), (3, ("r", "g", "s"), 4))), ((), (("e", "f", "g", "h"),), ())])
        told = [switched(SQUARE, ("p", "q", "r", "s"), ("e", "g"), 1), switched(SQUARE, ("e", "g"), ("f", "h"), "g"),
                three_terms(SQUARE, (), (1, 2, 3, 4))]
        self.assertEqual(told, [(("e", "r", "s"), ("g", "p", "q")), (("f", "h"), ("e", "g")), (2, 1, 1)])


class Partings(unittest.TestCase):
    def test_the_finest_one_by_force(self):
        for order in [*FEW, *orders_by_chance(5, 30), *orders_by_chance(6, 20), *orders_by_chance(7, 6)]:
            self.assertEqual(parts_of(order), finest_told(order), order.numbers)

    def test_of_eight_rim_places(self):
        # 1 and 5, and 3 and 7, cross; so do the others then.
        for ends, told in (((5, 2, 7, 4, 1, 6, 3, 8), ((1, 3, 5, 7), (2,), (4,), (6,), (8,))),
                           ((5, 6, 3, 4, 1, 2, 7, 8), ((1, 2, 5, 6), (3,), (4,), (7,), (8,))),
                           ((2, 1, 8, 5, 4, 7, 6, 3), ((1, 2), (3, 8), (4, 5), (6, 7)))):
            marks = {at: "black" for at in range(1, 9) if ends[at - 1] == at}
            self.assertEqual(parts_of(Order.of_ends(ends, marks)), told)

    def test_fixed_rim_places_are_parts_alone(self):
        for order in [*FEW, *orders_by_chance(8, 20)]:
            for index in order.marks:
                self.assertIn((index,), parts_of(order))

    def test_judged(self):
        for order in [*FEW[::4], TWO, *orders_by_chance(5, 6)]:
            check_judge(self, lambda value, order=order: is_parting(order, value), partings_told(order))
            for some in set_partitions(tuple(range(1, order.many + 1))):
                some = tuple(sorted(some))
                self.assertIs(is_parting(order, some), some in partings_told(order))

    def test_values_near_partings(self):
        for value in (((3, 4), (1, 2)), ((1, 2), (3, 4), ()), ((), (1, 2), (3, 4)), ((2, 1), (3, 4)), ((1, 2), (3, 4), (4,)), ((1, 2),),
                      ((1, 2), (3, 4, 5)), ((1, 2), [3, 4]), [(1, 2), (3, 4)], ((True, 2), (3, 4)), ((1, 3), (2, 4)), ((1, 4), (2, 3))):
            self.assertIs(is_parting(TWO, value), False, value)


class PartOrders(unittest.TestCase):
    def part_told(self, order, places):
        """By the words of [17.2]."""
        numbers = []
        for place in places:
            number = order(place)
            numbers.append(places.index(number) + 1 if number <= order.many else places.index(number - order.many) + 1 + len(places))
        return tuple(numbers)

    def test_of_each_part(self):
        for order in [*FEW, *orders_by_chance(5, 20), *orders_by_chance(6, 10)]:
            known = {part for parting in partings_told(order) for part in parting}
            for size in range(1, order.many + 1):
                for places in itertools.combinations(range(1, order.many + 1), size):
                    if places in known:
                        self.assertEqual(part_order(order, places).numbers, self.part_told(order, places))
                    else:
                        check_refused(self, InvalidOperation, None, part_order, order, places)

    def test_let_sets_levels_and_sizes(self):
        for order in [*FEW, *orders_by_chance(6, 15)]:
            for parting in partings_told(order)[::2]:
                orders = [part_order(order, places) for places in parting]
                self.assertEqual((sum(one.level for one in orders), sum(one.size for one in orders)), (order.level, order.size))
                told = set()
                for chosen in itertools.product(*(sets_of(one) for one in orders)):
                    told.add(tuple(sorted(part[at - 1] for part, some in zip(parting, chosen) for at in some)))
                self.assertEqual(told, set(sets_of(order)))

    def test_put_together_again(self):
        for order in [*FEW, *orders_by_chance(5, 10), *orders_by_chance(8, 20)]:
            for parting in (partings_told(order) if order.many < 6 else [parts_of(order)]):
                pairs = tuple((places, part_order(order, places)) for places in parting)
                self.assertEqual(joined_orders(order.many, pairs), order)

    def test_joined_from_any_orders(self):
        for first, last in itertools.product(FEW[:18], FEW[:18]):
            many = first.many + last.many
            for places in itertools.combinations(range(1, many + 1), first.many):
                rest = tuple(place for place in range(1, many + 1) if place not in places)
                pairs = tuple(sorted([(places, first), (rest, last)], key=lambda pair: pair[0]))
                if do_cross_told(places, rest):
                    check_refused(self, InvalidOperation, None, joined_orders, many, pairs)
                else:
                    joined = joined_orders(many, pairs)
                    self.assertEqual([part_order(joined, part) for part, _ in pairs], [one for _, one in pairs])

    def test_what_cannot_be_joined(self):
        two, one = Order((2, 3)), Order((1,))
        for value in ((((1, 3), two), ((2, 4), two)), (((3, 4), two), ((1, 2), two)), (((1, 2), two), ((3, 4), one)), (((1, 2), two),),
                      (((1, 2), two), ((3, 4, 5), Order((2, 3, 4)))), (((1, 2), two), ((2, 3), two)), [((1, 2), two), ((3, 4), two)],
                      (((1, 2), two), ([3, 4], two)), (((1, 2), two), [(3, 4), two]), (((1, 2), two), ((4, 3), two)), (((1, 2), two), ((3, 4),)),
                      (((1, 2), two), ((3, 4), (2, 3))), (((True, 2), two), ((3, 4), two)), (), (((1, 2), two), ((3, 4), two), ((), one)),
                      (((1, 2), two), ((3, 4), two, None))):
            check_refused(self, InvalidOperation, None, joined_orders, 4, value)
        self.assertEqual(joined_orders(4, (((1, 2), two), ((3, 4), two))), TWO)
        self.assertEqual(joined_orders(4, (((1, 4), two), ((2, 3), two))).ends, (4, 3, 2, 1))


class Turned(unittest.TestCase):
    def test_dual(self):
        for disc in MANY:
            dual = dual_disc(disc)
            self.assertEqual((dual.rim, dual.black, dual.white), (disc.rim, disc.white, disc.black))
            places = range(1, disc.many + 1)
            told = sorted(tuple(place for place in places if place not in chosen) for chosen in let_sets(disc))
            self.assertEqual(let_sets(dual), tuple(told))
            self.assertEqual((order_of(dual), is_thin(dual), dual_disc(dual)), (order_of(disc).dual, is_thin(disc), disc))

    def test_mirrored(self):
        for disc in MANY:
            mirrored = mirrored_disc(disc)
            many = disc.many
            self.assertEqual(mirrored.rim, tuple(disc.rim[many - at - 1] for at in range(many)))
            for place in disc.places:
                ties = disc.round_of(place)
                self.assertEqual(mirrored.round_of(place), (ties[0], *ties[:0:-1]))
                self.assertEqual(mirrored.colour(place), disc.colour(place))
            told = sorted(tuple(sorted(many + 1 - place for place in chosen)) for chosen in let_sets(disc))
            self.assertEqual(let_sets(mirrored), tuple(told))
            self.assertEqual((order_of(mirrored), is_thin(mirrored), mirrored_disc(mirrored)),
                             (order_of(disc).mirrored, is_thin(disc), disc))

    def test_turned(self):
        for disc in MANY:
            many = disc.many
            for by in range(many):
                turned = turned_disc(disc, by)
                self.assertEqual((turned.black, turned.white), (disc.black, disc.white))
                for at in range(1, many + 1):
                    self.assertEqual(turned.rim[(at + by - 1) % many], disc.rim[at - 1])
                told = sorted(tuple(sorted((place + by - 1) % many + 1 for place in chosen)) for chosen in let_sets(disc))
                self.assertEqual(let_sets(turned), tuple(told))
                self.assertEqual((order_of(turned), is_thin(turned)), (order_of(disc).turned(by), is_thin(disc)))
            self.assertEqual(turned_disc(disc, 0), disc)

    def test_trails_are_gone_backward(self):
        for disc in MANY:
            for other, seat in ((dual_disc(disc), lambda at: at), (mirrored_disc(disc), lambda at, disc=disc: disc.many + 1 - at)):
                for index in range(1, disc.many + 1):
                    steps = trail(disc, index)
                    back = trail(other, seat(steps[-1][1]))
                    self.assertEqual([tie for tie, _ in back], [tie for tie, _ in steps[::-1]])
                    self.assertEqual(back[-1][1], seat(index))


class Laid(unittest.TestCase):
    def components_told(self, disc, one, other):
        """The ties of the rings, and of the ways, as sets."""
        apart = set(one) ^ set(other)
        found = []
        while apart:
            some = {apart.pop()}
            grown = None
            while grown != some:
                grown = set(some)
                ends = {end for tie in some for end in disc.ends_of(tie) if isinstance(end, str)}
                some |= {tie for tie in apart if set(disc.ends_of(tie)) & ends}
            apart -= some
            found.append(frozenset(some))
        return found

    def check_row(self, disc, ties, is_ring):
        """Each next tie has a common place with the one before it, and comes from the other pairing."""
        pairs = list(itertools.pairwise(ties)) + ([(ties[-1], ties[0])] if is_ring else [])
        for first, last in pairs:
            self.assertTrue({end for end in disc.ends_of(first) if isinstance(end, str)} & set(disc.ends_of(last)))

    def test_all_pairs_of_pairings(self):
        kinds = collections.Counter()
        for disc in (*RINGS[:40], SQUARE, DOUBLE, HUNG):
            pairings = list(each_pairing(disc))
            for one, other in itertools.product(pairings, repeat=2):
                double, rings, ways = laid(disc, one, other)
                self.assertEqual(double, tuple(sorted(set(one) & set(other))))
                for found in (rings, ways):
                    self.assertEqual(found, tuple(sorted(found)))
                rows = [*rings, *[ties for _, ties, _ in ways]]
                self.assertEqual(sorted(map(sorted, map(frozenset, rows))), sorted(map(sorted, self.components_told(disc, one, other))))
                for ties in rings:
                    self.assertEqual(len(set(ties)), len(ties))
                    self.assertEqual(ties[0], min(ties))
                    self.assertLessEqual(ties[1], ties[-1])
                    self.assertEqual([tie in one for tie in ties], [at % 2 == (ties[0] in other) for at in range(len(ties))])
                    self.check_row(disc, ties, True)
                    kinds["ring of two" if len(ties) == 2 else "ring"] += 1
                for i, ties, j in ways:
                    self.assertLess(i, j)
                    self.assertEqual((ties[0], ties[-1]), (disc.rim[i - 1], disc.rim[j - 1]))
                    self.check_row(disc, ties, False)
                    sets = [set(set_of_pairing(disc, pairing)) for pairing in (one, other)]
                    self.assertEqual({i in sets[0] - sets[1], j in sets[0] - sets[1]}, {True, False})
                    self.assertEqual({i in sets[1] - sets[0], j in sets[1] - sets[0]}, {True, False})
                    kinds["way"] += 1
                kinds["double"] += len(double)
                ends = [end for i, _, j in ways for end in (i, j)]
                self.assertEqual(sorted(ends), sorted(set(set_of_pairing(disc, one)) ^ set(set_of_pairing(disc, other))))
                self.assertFalse(any(do_cross_told((i, j), (k, m)) for (i, _, j), (k, _, m) in itertools.combinations(ways, 2)))
        self.assertEqual(set(kinds), {"ring of two", "ring", "way", "double"})

    def test_where_a_ring_is_told_from(self):
        # Round the square one meets h, e, f, g, with other names for the ties.
        for names, told in (("abcd", ("a", "b", "c", "d")), ("adcb", ("a", "b", "c", "d")), ("bacd", ("a", "b", "d", "c")),
                            ("cbda", ("a", "c", "b", "d")), ("dbac", ("a", "b", "d", "c"))):
            ties = {**{tie: tie for tie in "pqrs"}, **dict(zip("efgh", names))}
            disc = SQUARE.renamed({place: place for place in "abcd"}, ties)
            one, other = tuple(sorted((ties["e"], ties["g"]))), tuple(sorted((ties["f"], ties["h"])))
            self.assertEqual(laid(disc, one, other), ((), (told,), ()))
            self.assertEqual(laid(disc, other, one), ((), (told,), ()))

    def test_rings_of_two(self):
        self.assertEqual(laid(DOUBLE, ("e",), ("f",)), ((), (("e", "f"),), ()))
        self.assertEqual(laid(DOUBLE, ("f",), ("f",)), (("f",), (), ()))
        self.assertEqual(laid(LINE, ("p",), ("q",)), ((), (), ((1, ("p", "q"), 2),)))


class Switched(unittest.TestCase):
    def test_at_ways_rings_and_double_ties(self):
        done = collections.Counter()
        for disc in (*RINGS[:25], SQUARE, DOUBLE):
            pairings = list(each_pairing(disc))
            for one, other in itertools.product(pairings, repeat=2):
                double, rings, ways = laid(disc, one, other)
                places = {what: ties for i, ties, j in ways for what in (i, j, *ties)}
                places.update({what: ties for ties in rings for what in ties})
                for what, ties in places.items():
                    found = switched(disc, one, other, what)
                    self.assertEqual(found, (tuple(sorted(set(one) ^ set(ties))), tuple(sorted(set(other) ^ set(ties)))))
                    self.assertEqual(switched(disc, *found, what), (one, other))
                    self.check_sets(disc, (one, other), found, [(i, j) for i, row, j in ways if row == ties])
                    done["rim place" if isinstance(what, int) else "tie"] += 1
                for what in [*double, *[at for at in range(1, disc.many + 1) if at not in places]]:
                    check_refused(self, InvalidOperation, None, switched, disc, one, other, what)
                    done["none"] += 1
        self.assertGreater(min(done.values()), 50)

    def check_sets(self, disc, before, behind, ends):
        old = [set(set_of_pairing(disc, pairing)) for pairing in before]
        new = [set(set_of_pairing(disc, pairing)) for pairing in behind]
        pair = set(ends[0]) if ends else set()
        self.assertEqual(new, [old[0] ^ pair, old[1] ^ pair])

    def test_other_values(self):
        right = [1, 2, 3, 4, "p", "q", "r", "s", "e", "g"]
        for what in (*wrong_values(), (), {}, 0, 5, -1, "f", "h", "a", "nosuch", (1,), ["e"], 10 ** 60 + 1):
            if not is_hashable(what) or isinstance(what, bool) or what not in right:
                check_refused(self, InvalidOperation, None, switched, SQUARE, ("p", "q", "r", "s"), ("e", "g"), what)
        for what in right:
            self.assertEqual(len(switched(SQUARE, ("p", "q", "r", "s"), ("e", "g"), what)), 2)

    def test_one_to_one(self):
        # [17.6]
        for disc in (SQUARE, disc_of(top_order(5, 2)), thin_by_chance(top_order(5, 3), 1)):
            by_set = {}
            for pairing in each_pairing(disc):
                by_set.setdefault(set_of_pairing(disc, pairing), []).append(pairing)
            for four in itertools.combinations(range(1, disc.many + 1), 4):
                for base in itertools.combinations([place for place in range(1, disc.many + 1) if place not in four], disc.level - 2):
                    self.check_four(disc, by_set, base, four)

    def check_four(self, disc, by_set, base, four):
        a, b, c, d = four

        def pairings(first, last):
            return by_set.get(tuple(sorted((*base, first, last))), [])
        found = set()
        for one, other in itertools.product(pairings(a, c), pairings(b, d)):
            _, _, ways = laid(disc, one, other)
            end = next(i + j - a for i, _, j in ways if a in (i, j))
            behind = switched(disc, one, other, a)
            self.assertIn(end, (b, d))
            wanted = ((b, c), (a, d)) if end == b else ((c, d), (a, b))
            self.assertTrue(behind[0] in pairings(*wanted[0]) and behind[1] in pairings(*wanted[1]))
            found.add(behind)
        told = (len(pairings(a, c)) * len(pairings(b, d)), len(pairings(a, b)) * len(pairings(c, d)), len(pairings(a, d)) * len(pairings(b, c)))
        self.assertEqual(len(found), told[1] + told[2])
        self.assertEqual(three_terms(disc, base, four), told)


class ThreeTerms(unittest.TestCase):
    def test_counted(self):
        done = set()
        for disc in MANY:
            if disc.level < 2 or disc.many < 4:
                continue
            counts = collections.Counter(set_of_pairing(disc, pairing) for pairing in each_pairing(disc))
            for four in itertools.combinations(range(1, disc.many + 1), 4):
                for base in itertools.combinations([place for place in range(1, disc.many + 1) if place not in four], disc.level - 2):
                    a, b, c, d = four
                    told = [[counts[tuple(sorted((*base, *pair)))] for pair in pairs]
                            for pairs in (((a, c), (b, d)), ((a, b), (c, d)), ((a, d), (b, c)))]
                    found = three_terms(disc, base, four)
                    self.assertEqual(found, tuple(first * last for first, last in told))
                    self.assertEqual(found[0], found[1] + found[2])
                    done.add(found[0] > 0)
        self.assertEqual(done, {True, False})

    def test_large_discs(self):
        disc = grid(5, 6, [0, 2, 5, 8, 10, 13, 16, 19])
        first, second, third = three_terms(disc, tuple(range(1, disc.level - 1)), tuple(range(disc.level - 1, disc.level + 3)))
        self.assertGreater(first, 500)
        self.assertEqual(first, second + third)

    def test_which_error_comes_first(self):
        check_refused(self, InvalidDisc, None, three_terms, None, None, None)
        for base, four in (((5,), None), (None, (1, 2, 3, 4)), ([], (1, 2, 3, 4)), ((), (1, 2, 3, 5)), ((), (4, 3, 2, 1)), ((True,), (1, 2, 3, 4))):
            check_refused(self, InvalidSet, None, three_terms, SQUARE, base, four)
        for base, four in (((1,), (1, 2, 3, 4)), ((), (1, 2, 3)), ((), ()), ((1, 2), (3, 4))):
            check_refused(self, InvalidOperation, None, three_terms, SQUARE, base, four)
        five = disc_of(top_order(5, 3))
        check_refused(self, InvalidOperation, None, three_terms, five, (1,), (1, 2, 3, 4))
        check_refused(self, InvalidOperation, None, three_terms, five, (), (1, 2, 3, 4))
        check_refused(self, InvalidOperation, None, three_terms, BLACK, (), (1, 2, 3))
        check_refused(self, InvalidOperation, None, three_terms, STAR, (), (1, 2, 3))
        self.assertEqual(len(three_terms(five, (5,), (1, 2, 3, 4))), 3)


class WrongArguments(unittest.TestCase):
    def test_of_orders(self):
        check_arguments(self, parts_of, (TWO,), [no_orders()])
        check_arguments(self, is_parting, (TWO, None), [no_orders()])
        no_places = InvalidSet, [*[value for value in not_one_of([(2, 4)], InvalidSet)[1] if value != (1, 2, 3)], (2, 1), (1, 1), (0, 1), (4, 5), [1, 2], (True, 2)]
        check_arguments(self, part_order, (TWO, (1, 2)), [no_orders(), no_places])
        check_refused(self, InvalidOrder, None, part_order, None, None)
        for places in ((1,), (2, 3), (1, 2, 3), (1, 4), (2, 4)):
            check_refused(self, InvalidOperation, None, part_order, TWO, places)
        check_arguments(self, joined_orders, (4, (((1, 2), Order((2, 3))), ((3, 4), Order((2, 3))))), [no_numbers(1, 8), not_one_of(())])
        check_refused(self, InvalidNumber, 9, joined_orders, 9, None)

    def test_of_discs(self):
        for function in (dual_disc, mirrored_disc):
            check_arguments(self, function, (SQUARE,), [no_discs()])
        check_arguments(self, turned_disc, (SQUARE, 0), [no_discs(), no_numbers(0, 3)])
        self.assertEqual(turned_disc(bare_disc(("black",)), 0).lines, ("rim a", "black a a"))

    def test_of_pairings(self):
        no_pairings = not_one_of((), InvalidPairing)
        no_pairings[1].extend([("g", "e"), ["e", "g"], ("e",), ("e", "f"), ("e", "g", "p"), ("e", "g", "x")])
        check_arguments(self, laid, (SQUARE, ("e", "g"), ("f", "h")), [no_discs(), no_pairings, no_pairings])
        check_arguments(self, switched, (SQUARE, ("e", "g"), ("f", "h"), "e"), [no_discs(), no_pairings, no_pairings, not_one_of(())])
        check_refused(self, InvalidPairing, None, switched, SQUARE, ("e", "g"), None, None)

    def test_the_functions_are_defined_in_their_module(self):
        for function in (parts_of, is_parting, part_order, joined_orders, dual_disc, mirrored_disc, turned_disc, laid, switched, three_terms):
            self.assertEqual(function.__module__, parts.__name__)
        self.assertIsInstance(Disc.from_lines(*dual_disc(SQUARE).lines), Disc)


if __name__ == "__main__":
    unittest.main()
