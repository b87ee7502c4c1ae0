"""[9.1] to [9.4]: bridges, steps, and a thin disc for each order."""

import itertools
import unittest

from rimtrails.base.discs import Disc
from rimtrails.base.trails import trail_ends
from rimtrails.build import bridges
from rimtrails.build.bridges import (bare_disc, bridged, disc_by, disc_of, is_steps, order_by, steps_of,
                                     with_rim_place)
from rimtrails.errors import InvalidNumber, InvalidOperation, InvalidOrder, TooMany
from rimtrails.order.necklaces import order_of
from rimtrails.order.orders import Order, count_orders, each_order, top_order
from rimtrails.pair.pairings import let_sets
from rimtrails.thin.faults import is_thin
from tests.many_discs import discs_by_chance
from tests.refusals import check_arguments, check_refused, near, no_discs, no_numbers, not_one_of
from tests.samples import BLACK, DOUBLE, LINE, SQUARE, STAR, common_ties, wrong_values

MANY = discs_by_chance(200)
FEW = [order for many in range(1, 5) for order in each_order(many)]
COLOURS = ("black", "white")
MADE = ("black", 1), ("white", 1), ("bridge", 1)


def numbers_told(value):
    """The numbers that the steps make, by the words of [9.4], or None."""
    order = None
    for word, index in value:
        many = order.many if order else 0
        if word == "bridge":
            if not order or not 1 <= index < many or order(index) < order(index + 1):
                return None
            order = order.starts_exchanged(index)
        else:
            if not 1 <= index <= many + 1 or many == 8:
                return None
            ends = [end + (end >= index) for end in order.ends] if order else []
            marks = {at + (at >= index): mark for at, mark in order.marks.items()} if order else {}
            order = Order.of_ends((*ends[:index - 1], index, *ends[index - 1:]), {**marks, index: word})
    return order.numbers if order else None


def hung(ties):
    """A disc of so many ties: many common ones behind rim place 1, and a dead end at rim place 2."""
    rim, black, white = common_ties(ties - 2)
    return Disc((*rim, "zz"), black, {**white, "zz": ("zz",)})


class Examples(unittest.TestCase):
    def test_steps(self):
        told = (("black", 1), ("white", 1), ("bridge", 1), ("white", 1), ("bridge", 1), ("black", 3), ("bridge", 2), ("bridge", 1))
        self.assertEqual(steps_of(Order((3, 4, 5, 6))), told)

    def test_discs(self):
        told = [disc_of(Order((2, 3))).lines, bare_disc(("white", "black")).lines, with_rim_place(LINE, 2, "white").lines]
        self.assertEqual(told, [("rim b a", "black a a c", "white b b c"), ("rim a b", "white a a", "black b b"),
                                ("rim p a q", "white a a", "black b p q")])

    def test_bridges(self):
        told = [bridged(LINE, 1).lines, trail_ends(bridged(LINE, 1)),
                bridged(bare_disc(("black", "white")), 1, ends=True).lines]
        self.assertEqual(told, [("rim p q", "white a a p b", "black b a b q"), (1, 2),
                                ("rim a b", "black a a c", "white b b c")])

    def test_orders_by_steps(self):
        told = [order_by(MADE).numbers, is_steps((("white", 1), ("black", 1), ("bridge", 1))),
                disc_of(Order((3, 4, 5, 6))).regions]
        self.assertEqual(told, [(2, 3), False, 5])


class BareDiscs(unittest.TestCase):
    def test_of_all_marks(self):
        for many in range(1, 5):
            for marks in itertools.product(COLOURS, repeat=many):
                disc = bare_disc(marks)
                names = tuple("abcd"[:many])
                self.assertEqual((disc.rim, disc.places, disc.ties), (names, names, names))
                self.assertEqual([disc.colour(disc.inner_end(at + 1)) for at in range(many)], list(marks))
                self.assertEqual([disc.inner_end(at + 1) for at in range(many)], list(names))
                self.assertEqual(order_of(disc).marks, dict(enumerate(marks, 1)))

    def test_eight(self):
        self.assertEqual(bare_disc(("white",) * 8).lines, ("rim a b c d e f g h", *(f"white {name} {name}" for name in "abcdefgh")))

    def test_wrong_marks(self):
        wrong = not_one_of((), InvalidOperation)
        wrong[1].extend([("black",) * 9, ["black"], "black", ("red",), ("Black",), ("black", None), ("black ",), (("black",),),
                         {"black": 1}, ("",), (True,), (1,), ("black", ["white"])])
        check_arguments(self, bare_disc, (("black",),), [wrong])


class RimPlaces(unittest.TestCase):
    def test_at_the_first_in_between_and_behind_the_last(self):
        self.assertEqual(with_rim_place(SQUARE, 1, "black").rim, ("a", "p", "q", "r", "s"))
        self.assertEqual(with_rim_place(SQUARE, 1, "black").lines[1:],
                         ("white a e h p", "black b e q f", "white c f r g", "black d g s h", "black e a"))
        self.assertEqual(with_rim_place(SQUARE, 3, "white").rim, ("p", "q", "a", "r", "s"))
        self.assertEqual(with_rim_place(SQUARE, 5, "white").rim, ("p", "q", "r", "s", "a"))
        self.assertEqual(with_rim_place(SQUARE, 5, "white").colour("e"), "white")

    def test_new_names(self):
        disc = Disc(("a", "c"), {"b": ("a",)}, {"a": ("c",)})
        self.assertEqual(with_rim_place(disc, 2, "black").lines, ("rim a b c", "white a c", "black b a", "black c b"))

    def test_the_order_has_one_more_fixed_place(self):
        for disc in MANY[::2]:
            if disc.many == 8:
                continue
            old = order_of(disc)
            for index in range(1, disc.many + 2):
                for colour in COLOURS:
                    more = with_rim_place(disc, index, colour)
                    order = order_of(more)
                    ends = [end + (end >= index) for end in old.ends]
                    self.assertEqual(order.ends, (*ends[:index - 1], index, *ends[index - 1:]))
                    marks = {at + (at >= index): mark for at, mark in old.marks.items()}
                    self.assertEqual(order.marks, {**marks, index: colour})
                    self.assertEqual(len(more), len(disc) + 1)

    def test_too_many(self):
        eight = bare_disc(("black",) * 8)
        self.assertEqual(with_rim_place(bare_disc(("black",) * 7), 8, "white").many, 8)
        sixty = Disc(*common_ties(59))
        self.assertEqual(len(with_rim_place(Disc(*common_ties(58)), 2, "white")), 60)
        both = Disc(*common_ties(52))
        for index in range(2, 9):
            both = with_rim_place(both, index, "black")
        self.assertEqual((both.many, len(both)), (8, 60))
        for disc, limit in ((eight, 8), (sixty, 60), (both, 8)):
            for index in range(1, disc.many + 2):
                with self.assertRaises(TooMany) as caught:
                    with_rim_place(disc, index, "black")
                self.assertEqual(caught.exception.limit, limit)
            check_refused(self, InvalidNumber, disc.many + 2, with_rim_place, disc, disc.many + 2, "black")
            check_refused(self, InvalidOperation, None, with_rim_place, disc, 1, "red")

    def test_wrong_arguments(self):
        colours = not_one_of((), InvalidOperation)
        colours[1].extend(["Black", "red", "blac", ("black",), "black "])
        check_arguments(self, with_rim_place, (SQUARE, 5, "black"), [no_discs(), no_numbers(1, 5), colours])

    def test_the_disc_stays_as_it_was(self):
        lines = SQUARE.lines
        with_rim_place(SQUARE, 1, "white")
        bridged(SQUARE, 1)
        bridged(SQUARE, 2, ends=True)
        self.assertEqual(SQUARE.lines, lines)


class Bridges(unittest.TestCase):
    def test_of_both_kinds_at_inner_ends_of_both_colours(self):
        told = {
            ("white", "black", False): ("rim a b", "white a a c", "black b b c"),
            ("white", "white", False): ("rim a b", "white a a d", "white b c", "black c b c d"),
            ("black", "black", False): ("rim a b", "black a c", "black b b d", "white c a d c"),
            ("black", "white", False): ("rim a b", "black a c", "white b d", "white c a e c", "black d b d e"),
            ("black", "white", True): ("rim a b", "black a a c", "white b b c"),
            ("black", "black", True): ("rim a b", "black a a d", "black b c", "white c b c d"),
            ("white", "white", True): ("rim a b", "white a c", "white b b d", "black c a d c"),
            ("white", "black", True): ("rim a b", "white a c", "black b d", "black c a e c", "white d b d e"),
        }
        for (one, other, ends), lines in told.items():
            disc = bridged(bare_disc((one, other)), 1, ends=ends)
            self.assertEqual(disc, Disc.from_lines(*lines), (one, other, ends))

    def test_seats_in_the_rounds(self):
        self.assertEqual(bridged(SQUARE, 1).lines, ("rim p q r s", "white a a e h p", "black b a q f e", "white c f r g", "black d g s h"))
        self.assertEqual(bridged(SQUARE, 2).lines, ("rim p q r s", "white a e h p", "black b a f e", "white c b g f",
                                                    "black d g s h", "white e a q c", "black f b c r"))
        self.assertEqual(bridged(SQUARE, 2, ends=True).lines, ("rim p q r s", "white a e h p", "black b a f e q",
                                                               "white c a r g f", "black d g s h"))
        self.assertEqual(bridged(STAR, 2).lines, ("rim p q r", "black a a b r", "white w a p q b"))

    def test_new_names(self):
        disc = Disc(("b", "e"), {"a": ("b",)}, {"d": ("e",)})
        self.assertEqual(bridged(disc, 1).lines, ("rim b e", "black a a", "white b a b d", "black c c d e", "white d c"))

    def test_the_let_sets(self):
        for disc in MANY:
            let = set(let_sets(disc))
            for index in range(1, disc.many):
                for ends in (False, True):
                    came, gone = (index, index + 1) if ends else (index + 1, index)
                    more = {tuple(sorted({*places, came} - {gone})) for places in let if gone in places and came not in places}
                    self.assertEqual(set(let_sets(bridged(disc, index, ends=ends))), let | more)

    def test_the_trails(self):
        for disc in MANY:
            old = list(trail_ends(disc))
            for index in range(1, disc.many):
                starts = old[:index - 1] + [old[index], old[index - 1]] + old[index + 1:]
                self.assertEqual(list(trail_ends(bridged(disc, index))), starts)
                ends = [{index: index + 1, index + 1: index}.get(end, end) for end in old]
                self.assertEqual(list(trail_ends(bridged(disc, index, ends=True))), ends)

    def test_the_order(self):
        thin = 0
        for disc in MANY:
            old = order_of(disc)
            for index in range(1, disc.many):
                other = bridged(disc, index)
                if old(index) > old(index + 1):
                    self.assertEqual(order_of(other), old.starts_exchanged(index))
                    self.assertIs(is_thin(other), is_thin(disc))
                    thin += is_thin(disc)
                else:
                    self.assertEqual(order_of(other), old)
                    self.assertIs(is_thin(other), False)
        self.assertGreater(thin, 15)

    def test_too_many_ties(self):
        # A black and a white inner end: a bridge of starts takes three new ties, one of ends a single one.
        for ends, most in ((False, 57), (True, 59)):
            self.assertEqual(len(bridged(hung(most), 1, ends=ends)), 60)
            for ties in range(most + 1, 61):
                with self.assertRaises(TooMany) as caught:
                    bridged(hung(ties), 1, ends=ends)
                self.assertEqual(caught.exception.limit, 60)
        check_refused(self, InvalidOperation, None, bridged, hung(60), 1, ends=1)
        check_refused(self, InvalidNumber, 2, bridged, hung(60), 2)

    def test_ends_is_true_or_false(self):
        self.assertEqual(bridged(LINE, 1, ends=False), bridged(LINE, 1))
        for value in (1, 0, None, "ends", "", (), [], {}, "True"):
            check_refused(self, InvalidOperation, None, bridged, LINE, 1, ends=value)
        with self.assertRaises(TypeError):
            bridged(LINE, 1, True)

    def test_wrong_arguments(self):
        ends = not_one_of([True, False], InvalidOperation)
        check_arguments(self, bridged, (SQUARE, 1), [no_discs(), no_numbers(1, 3)], [("ends", *ends)])
        for disc in (bare_disc(("black",)), bare_disc(("white",))):
            for value in (0, 1, 2):
                check_refused(self, InvalidNumber, value, bridged, disc, value)


class Steps(unittest.TestCase):
    def test_there_and_back(self):
        for order in FEW + list(each_order(5))[::7] + list(each_order(8, level=4))[::7001]:
            steps = steps_of(order)
            self.assertIs(is_steps(steps), True)
            self.assertEqual(order_by(steps), order)
            self.assertEqual(numbers_told(steps), order.numbers)
            words = [word for word, _ in steps]
            self.assertEqual((words.count("bridge"), len(words) - words.count("bridge")), (order.size, order.many))

    def test_they_are_found_backward(self):
        for order in FEW:
            steps = steps_of(order)
            word, index = steps[-1]
            fixed = sorted(order.marks)
            if fixed:
                self.assertEqual((word, index), (order.marks[fixed[0]], fixed[0]))
            else:
                rising = [at for at in range(1, order.many) if order(at) < order(at + 1)]
                self.assertEqual((word, index), ("bridge", rising[0]))
            if len(steps) > 1:
                self.assertEqual(steps_of(order_by(steps[:-1])), steps[:-1])

    def test_judged(self):
        found = set()
        words = [(word, index) for word in (*COLOURS, "bridge") for index in range(0, 4)]
        for size in range(5):
            for value in itertools.product(words, repeat=size):
                self.assertIs(is_steps(value), numbers_told(value) is not None, value)
                if is_steps(value):
                    found.add(order_by(value).numbers)
                    self.assertEqual(order_by(value).numbers, numbers_told(value))
        self.assertEqual(len(found), sum(map(count_orders, (1, 2))) + len([one for one in found if len(one) > 2]))

    def test_near_values(self):
        def is_told(value):
            pairs = type(value) is tuple and all(type(step) is tuple and len(step) == 2 for step in value)
            if not pairs or not all(type(index) is int and word in (*COLOURS, "bridge") for word, index in value):
                return False
            return numbers_told(value) is not None
        for order in (Order((2, 3)), Order((3, 4, 5)), Order((2, 5, 4, 7)), Order((1,))):
            for value in (*near(steps_of(order)), *wrong_values(), (), {}, 1, ((),), (("black",),), (("black", 1, 1),),
                          (("black", True),), (("bridge", 1),), (["black", 1],), [("black", 1)], ((1, "black"),), (None,)):
                self.assertIs(is_steps(value), is_told(value), value)

    def test_at_most_eight_rim_places(self):
        self.assertIs(is_steps((("black", 1),) * 8), True)
        self.assertIs(is_steps((("black", 1),) * 9), False)
        self.assertIs(is_steps(()), False)

    def test_an_order_with_several(self):
        for steps in ((("black", 1), ("white", 1)), (("white", 1), ("black", 2))):
            self.assertEqual(order_by(steps).numbers, (3, 2))

    def test_discs_by_them(self):
        self.assertEqual(disc_by((("white", 1),)), bare_disc(("white",)))
        self.assertEqual(disc_by(MADE), bridged(with_rim_place(bare_disc(("black",)), 1, "white"), 1))
        self.assertEqual(disc_by((*MADE, ("black", 2), ("white", 4))),
                         with_rim_place(with_rim_place(disc_by(MADE), 2, "black"), 4, "white"))

    def test_discs_of_orders(self):
        for order in FEW + list(each_order(5))[::11] + [top_order(8, 4), top_order(8, 1), Order((9, 2, 11, 4, 13, 6, 15, 8))]:
            disc = disc_of(order)
            self.assertEqual(disc, disc_by(steps_of(order)))
            self.assertIs(is_thin(disc), True)
            self.assertEqual((order_of(disc), disc.regions), (order, order.size + 1))

    def test_wrong_arguments(self):
        no_steps = not_one_of((), InvalidOperation)
        no_steps[1].extend([(("white", 1), ("black", 1), ("bridge", 1)), [("black", 1)], (("black", 2),), (("black", True),)])
        for function in (order_by, disc_by):
            check_arguments(self, function, (MADE,), [no_steps])
        no_orders = not_one_of((), InvalidOrder)
        no_orders[1].append((2, 3))
        for function in (steps_of, disc_of):
            check_arguments(self, function, (Order((2, 3)),), [no_orders])

    def test_the_functions_are_defined_in_their_module(self):
        for function in (bare_disc, with_rim_place, bridged, is_steps, order_by, disc_by, steps_of, disc_of):
            self.assertEqual(function.__module__, bridges.__name__)


if __name__ == "__main__":
    unittest.main()
