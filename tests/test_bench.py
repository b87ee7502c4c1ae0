"""[18.1] to [18.3]: benches, their changes and news, pledges, trials and twins."""

import random
import unittest

from rimtrails.base.discs import Disc
from rimtrails.build.bridges import bare_disc, bridged, disc_of, with_rim_place
from rimtrails.errors import (InvalidDisc, InvalidMove, InvalidNumber, InvalidOperation, NothingToUndo, Refused, TooMany,
                              UnknownName)
from rimtrails.order.necklaces import order_of
from rimtrails.order.orders import Order, top_order
from rimtrails.part.borders import is_below
from rimtrails.pair.pairings import let_sets
from rimtrails.point.points import moved_numbers, point_of, rescaled
from rimtrails.thin.faults import left_out
from rimtrails.thin.moves import each_move, moved, shortened
from rimtrails.use import bench as module
from rimtrails.use.bench import MAX_PLEDGES, Bench, is_pledge
from tests.many_discs import discs_by_chance, grid, renamed_by_chance
from tests.refusals import check_arguments, check_judge, check_refused, no_discs, no_numbers, not_one_of
from tests.samples import BLACK, DOUBLE, LINE, SQUARE, STAR, common_ties, wrong_values

TURN = ("square", ("e", "f", "g", "h"))
TOP = Order((3, 4, 5, 6))
TALL = grid(5, 6, [0, 2, 5, 8, 10, 13, 16, 19])
LONGEST = 10 ** 60 - 1
PLEDGES = [("order", (3, 4, 5, 6)), ("thin",), ("short",), ("let", (1, 2)), ("barred", (1,)), ("regions", 5), ("point", (2, 4), 2)]


def lines_told(disc, numbers):
    return (*disc.lines, *(f"tie {tie} {numbers[tie]}" for tie in sorted(numbers)))


def news_told(before, behind):
    return tuple(sorted(set(before) - set(behind))), tuple(sorted(set(behind) - set(before)))


def state(bench):
    """All that can be seen of a bench, but for what it can do again."""
    return bench.disc.lines, bench.numbers, bench.pledges, bench.changes, bench.lines


def far(bench):
    """The state, and those of twins on which all is taken back and done again."""
    seen = [state(bench)]
    twin = bench.twin()
    while twin.changes:
        twin.undo()
        seen.append(state(twin))
    twin = bench.twin()
    while True:
        try:
            twin.redo()
        except NothingToUndo:
            return seen
        seen.append(state(twin))


class Case(unittest.TestCase):
    def check(self, bench, change, disc, numbers):
        """The change leads to this disc and these numbers, and returns the news."""
        before, count, pledges = bench.lines, bench.changes, bench.pledges
        news = change(bench)
        self.assertEqual((bench.disc, bench.numbers), (disc, numbers))
        self.assertEqual(list(bench.numbers), list(disc.ties))
        self.assertEqual(bench.lines, lines_told(disc, numbers))
        self.assertEqual(news, news_told(before, bench.lines))
        self.assertEqual((bench.changes, bench.pledges), (count + 1, pledges))

    def check_fails(self, bench, error, kept, call):
        """The call is refused, and changes nothing."""
        before = far(bench)
        with self.assertRaises(error) as caught:
            call(bench)
        self.assertIs(type(caught.exception), error)
        for name in ("name", "value", "wanted", "limit", "pledge"):
            if hasattr(caught.exception, name):
                self.assertEqual(repr(getattr(caught.exception, name)), repr(kept))
        self.assertEqual(far(bench), before)


class Examples(unittest.TestCase):
    def test_numbers_and_moves(self):
        bench = Bench(SQUARE)
        self.assertEqual([bench.order.numbers, bench.point[2, 4], bench.put_number("e", 2), bench.point],
                         [(3, 4, 5, 6), 2, (("tie e 1",), ("tie e 2",)), {(1, 2): 1, (1, 3): 1, (1, 4): 1, (2, 3): 2, (2, 4): 3, (3, 4): 1}])
        before, news = bench.point, bench.move(TURN)
        told = [bench.point == before, bench.demand(("thin",)), bench.changes, str(bench), bench.undo(many=2) == (news[1], news[0]),
                bench.pledges, bench.numbers["e"]]
        self.assertEqual(told, [True, ((), ()), 3, "bench of 4 rim places, 12 ties, 1 pledges", True, (), 2])
        told = [bench.rescale("a", (2, 1)), bench.point == before, bench.demand(("let", (1, 2))),
                bench.during(lambda same: same.leave_out(("g",))), "tie e 4" in bench]
        self.assertEqual(told, [(("tie e 2", "tie h 1", "tie p 1"), ("tie e 4", "tie h 2", "tie p 2")), True, ((), ()),
                                (("black d g s h", "tie g 1", "white c f r g"), ("black d h s", "white c f r")), True])

    def test_bridges(self):
        line = Bench(LINE)
        told = [line.bridge(1, number=3), line.order.numbers, line.point, ("thin",) in line]
        self.assertEqual(told, [(("black b p q",), ("black b a b q", "tie a 1", "tie b 3", "white a a p b")), (2, 3),
                                {(1,): 1, (2,): 4}, False])

    def test_the_constant(self):
        self.assertEqual(MAX_PLEDGES, 10)


class Looks(unittest.TestCase):
    def test_a_new_bench(self):
        for disc in discs_by_chance(40):
            bench = Bench(disc)
            ones = {tie: 1 for tie in disc.ties}
            self.assertEqual((bench.disc, bench.numbers, bench.pledges, bench.changes), (disc, ones, (), 0))
            self.assertEqual((bench.order, bench.point), (order_of(disc), point_of(disc, ones)))
            self.assertEqual(bench.lines, lines_told(disc, ones))
            self.assertEqual((list(bench), len(bench)), (list(bench.lines), 0))
            self.assertEqual(str(bench), f"bench of {disc.many} rim places, {len(disc)} ties, 0 pledges")

    def test_membership(self):
        bench = Bench(SQUARE)
        bench.demand(("let", (1, 2)))
        bench.demand(("regions", 5))
        for value in (*bench.lines, ("let", (1, 2)), ("regions", 5)):
            self.assertIs(value in bench, True)
        for value in (*wrong_values(), (), {}, 1, "tie e 2", "tie e", "rim p q r", ("thin",), ("let", (1, 3)), ["let", (1, 2)], ("let", [1, 2]),
                      ("let", (True, 2)), ("regions", True), ("regions", "5"), (("let", (1, 2)),), SQUARE, bench):
            self.assertIs(value in bench, False, value)
        self.assertEqual((len(bench), str(bench)), (2, "bench of 4 rim places, 8 ties, 2 pledges"))

    def test_true_is_not_one_in_pledges(self):
        bench = Bench(STAR)
        bench.demand(("let", (1,)))
        self.assertEqual([("let", (1,)) in bench, ("let", (True,)) in bench], [True, False])
        check_refused(self, InvalidOperation, None, bench.waive, ("let", (True,)))

    def test_equality(self):
        one, other = Bench(SQUARE), Bench(Disc.from_lines(*SQUARE.lines[::-1]))
        self.assertTrue(one == other and not one != other)
        other.put_number("e", 2)
        self.assertTrue(one != other and not one == other)
        one.put_number("e", 2)
        self.assertTrue(one == other)
        one.demand(("thin",))
        self.assertFalse(one == other)
        other.demand(("short",))
        other.demand(("thin",))
        one.demand(("short",))
        # The pledges are there in another order.
        self.assertFalse(one == other)
        for value in (*wrong_values(), None, 1, SQUARE, SQUARE.lines, one.lines):
            self.assertTrue(one != value and not one == value)
        self.assertFalse(Bench(SQUARE) == Bench(renamed_by_chance(SQUARE, 1)))

    def test_returned_dicts_are_free(self):
        bench = Bench(SQUARE)
        bench.numbers["e"] = 7
        bench.point.clear()
        bench.disc.black.clear()
        self.assertEqual((bench.numbers["e"], len(bench.point), bench), (1, 6, Bench(SQUARE)))

    def test_properties_and_methods_stand_in_the_class(self):
        own = vars(Bench)
        for name in ("disc", "numbers", "order", "point", "lines", "pledges", "changes"):
            self.assertIsInstance(own[name], property)
        for name in ("move", "bridge", "put_in", "leave_out", "put_number", "rescale", "rename", "demand", "waive", "undo", "redo", "trial",
                     "during", "twin", "__contains__", "__len__", "__iter__", "__eq__", "__str__", "__init__"):
            self.assertIn(name, own)

    def test_no_disc(self):
        check_arguments(self, Bench, (SQUARE,), [no_discs()])


class Moves(Case):
    def test_each_one(self):
        for disc in discs_by_chance(30):
            chance = random.Random(len(disc))
            for move in list(each_move(disc))[::3]:
                bench = Bench(disc)
                for tie in disc.ties:
                    bench.put_number(tie, chance.randint(1, 9))
                numbers, order, point = bench.numbers, bench.order, bench.point
                self.check(bench, lambda bench, move=move: bench.move(move), moved(disc, move), moved_numbers(disc, numbers, move))
                self.assertEqual((bench.order, bench.point), (order, point))

    def test_wrong_moves(self):
        for move in (*not_one_of((), InvalidMove)[1], ("put", True), ("put", 0), ("draw", "a"), ["put", 1]):
            self.check_fails(Bench(SQUARE), InvalidMove, None, lambda bench, move=move: bench.move(move))


class Bridges(Case):
    def bridged_told(self, bench, index, ends, number):
        """By the words of [18.1]: a new tie from a new place on a tie of the rim gets the number of this tie, which gets 1."""
        disc = bench.disc
        behind = bridged(disc, index, ends=ends)
        told = bench.numbers
        news = sorted((tie for tie in behind.ties if tie not in disc.ties), key=lambda tie: (len(tie), tie))
        for seat in (index, index + 1):
            if behind.inner_end(seat) not in disc.places:
                told[news.pop(0)] = told[disc.rim[seat - 1]]
                told[disc.rim[seat - 1]] = 1
        told[news.pop(0)] = number
        self.assertEqual(news, [])
        return behind, {tie: told[tie] for tie in sorted(told)}

    def test_each_one(self):
        found = set()
        for disc in discs_by_chance(50):
            for index in range(1, disc.many):
                for ends in (True, False):
                    bench = Bench(disc)
                    for at, tie in enumerate(disc.ties):
                        bench.put_number(tie, at + 2)
                    behind, told = self.bridged_told(bench, index, ends, 11)
                    order = bench.order
                    self.check(bench, lambda bench, index=index, ends=ends: bench.bridge(index, ends=ends, number=11), behind, told)
                    self.assertIs(is_below(order, bench.order), True)
                    found.add(len(behind) - len(disc))
        self.assertEqual(found, {1, 2, 3})

    def test_told_numbers(self):
        bench = Bench(LINE)
        bench.put_number("p", 5)
        bench.put_number("q", 7)
        bench.bridge(1, number=3)
        # A new place a on p; its tie to b gets 5, and the bridge 3.
        self.assertEqual(bench.numbers, {"a": 5, "b": 3, "p": 1, "q": 7})
        self.assertEqual(bench.point, {(1,): 7, (2,): 8})

    def test_without_keywords(self):
        bench = Bench(LINE)
        bench.bridge(1)
        self.assertEqual((bench.disc, bench.numbers), (bridged(LINE, 1), {"a": 1, "b": 1, "p": 1, "q": 1}))
        self.assertRaises(TypeError, bench.bridge, 1, True)

    def test_wrong_arguments(self):
        bench = Bench(STAR)
        no_ends = not_one_of([True, False])
        no_positive = no_numbers(1, LONGEST)
        check_arguments(self, bench.bridge, (1,), [no_numbers(1, 2)], named=[("ends", *no_ends), ("number", *no_positive)])
        self.assertEqual((bench, bench.changes), (Bench(STAR), 0))

    def test_too_many_ties_come_last(self):
        rim, black, white = common_ties(57)
        disc = Disc((*rim, "zz"), black, {**white, "zz": ("zz",)})
        self.assertEqual(len(disc), 59)
        bench = Bench(disc)
        self.check_fails(bench, TooMany, 60, lambda bench: bench.bridge(1, number=2))
        self.check_fails(bench, InvalidNumber, 0, lambda bench: bench.bridge(1, number=0))
        self.check_fails(bench, InvalidOperation, None, lambda bench: bench.bridge(1, ends=1, number=0))
        self.check_fails(bench, InvalidNumber, 2, lambda bench: bench.bridge(2, ends=1, number=0))
        bench.bridge(1, ends=True, number=2)
        self.assertEqual((len(bench.disc), sorted(bench.numbers.values())[-2:]), (60, [1, 2]))


class PutIn(Case):
    def test_each_one(self):
        for disc in discs_by_chance(40):
            for index in range(1, disc.many + 2):
                for colour in ("black", "white"):
                    bench = Bench(disc)
                    for tie in disc.ties:
                        bench.put_number(tie, 4)
                    if disc.many == 8:
                        self.check_fails(bench, TooMany, 8, lambda bench, index=index, colour=colour: bench.put_in(index, colour))
                        continue
                    behind = with_rim_place(disc, index, colour)
                    told = {tie: 4 if tie in disc else 1 for tie in behind.ties}
                    self.check(bench, lambda bench, index=index, colour=colour: bench.put_in(index, colour), behind, told)

    def test_wrong_arguments(self):
        bench = Bench(STAR)
        check_arguments(self, bench.put_in, (1, "black"), [no_numbers(1, 4), not_one_of(())])
        rim, black, white = common_ties(59)
        self.check_fails(Bench(Disc(rim, black, white)), TooMany, 60, lambda bench: bench.put_in(1, "black"))
        self.check_fails(Bench(bare_disc(("black",) * 8)), TooMany, 8, lambda bench: bench.put_in(9, "white"))


class LeftOut(Case):
    def test_each_one(self):
        for disc in discs_by_chance(50):
            for ties in [(), *((tie,) for tie in disc.ties), disc.ties[:2], disc.rim[:1]]:
                bench = Bench(disc)
                for at, tie in enumerate(disc.ties):
                    bench.put_number(tie, at + 2)
                numbers, order = bench.numbers, bench.order
                try:
                    behind = left_out(disc, ties)
                except InvalidOperation:
                    self.check_fails(bench, InvalidOperation, None, lambda bench, ties=ties: bench.leave_out(ties))
                    continue
                told = {tie: 1 if tie in ties else numbers[tie] for tie in behind.ties}
                self.check(bench, lambda bench, ties=ties: bench.leave_out(ties), behind, told)
                self.assertIs(is_below(bench.order, order), True)

    def test_ties_to_new_dead_ends_get_one(self):
        bench = Bench(STAR)
        for tie in "pqr":
            bench.put_number(tie, 6)
        self.assertEqual(bench.leave_out(("p",)), (("tie p 6", "white w p q r"), ("black a p", "tie p 1", "white w q r")))

    def test_wrong_arguments(self):
        no_ties = not_one_of([()])
        no_ties[1].extend([("q", "p"), ["p"], ("p", "q", "r"), ("x",)])
        check_arguments(self, Bench(STAR).leave_out, ((),), [no_ties])


class Numbers(Case):
    def test_put(self):
        bench = Bench(SQUARE)
        for tie, number in (("e", 1), ("e", 5), ("p", LONGEST), ("e", 5)):
            told = {**bench.numbers, tie: number}
            order = bench.order
            self.check(bench, lambda bench, tie=tie, number=number: bench.put_number(tie, number), SQUARE, told)
            self.assertEqual(bench.order, order)
        no_ties = UnknownName, [*not_one_of((), UnknownName)[1], "a", "nosuch", ("e",)]
        check_arguments(self, Bench(SQUARE).put_number, ("e", 2), [no_ties, no_numbers(1, LONGEST)])

    def test_rescaled(self):
        for disc in discs_by_chance(30):
            for place in disc.places:
                for factor in ((3, 1), (1, 2), (2, 3), (1, 1)):
                    bench = Bench(disc)
                    for at, tie in enumerate(disc.ties):
                        bench.put_number(tie, (at % 3 + 1) * 6)
                    numbers, point, order = bench.numbers, bench.point, bench.order
                    self.check(bench, lambda bench, place=place, factor=factor: bench.rescale(place, factor), disc,
                               rescaled(disc, numbers, place, factor))
                    self.assertEqual((bench.point, bench.order), (point, order))

    def test_wrong_factors(self):
        bench = Bench(SQUARE)
        no_places = UnknownName, [value for value in not_one_of(["a"], UnknownName)[1]] + ["e", "nosuch"]
        no_factors = InvalidNumber, [*not_one_of((), InvalidNumber)[1], (0, 1), (-1, 1), (2, 4), (True, 1), (10 ** 60, 1), (1, 10 ** 60)]
        check_arguments(self, bench.rescale, ("a", (1, 1)), [no_places, no_factors])
        self.check_fails(bench, InvalidOperation, None, lambda bench: bench.rescale("a", (1, 2)))

    def test_longer_than_sixty_digits(self):
        bench = Bench(SQUARE)
        for tie in SQUARE.ties:
            bench.put_number(tie, LONGEST)
        bench.rescale("a", (LONGEST, 1))
        self.assertIn(f"tie e {LONGEST ** 2}", bench)
        bench.move(TURN)
        self.assertEqual(max(bench.numbers.values()), 2 * LONGEST ** 3)
        told = {(1, 2): LONGEST, (1, 3): LONGEST ** 2, (1, 4): LONGEST, (2, 3): LONGEST, (2, 4): 2, (3, 4): LONGEST}
        self.assertEqual(bench.point, told)
        bench.rescale("a", (1, LONGEST))
        self.assertEqual(bench.point, told)
        bench.rename({place: place for place in bench.disc.places}, {tie: tie for tie in bench.disc.ties})
        bench.leave_out(())
        self.assertEqual(bench.changes, 13)

    def test_of_any_length(self):
        bench = Bench(LINE)
        told = 1
        for _ in range(100):
            bench.rescale("b", (10 ** 59, 1))
            told *= 10 ** 59
        line = bench.lines[-1]
        self.assertEqual((len(line), line[:9], set(line[7:])), (6 + 5901, "tie q 100", {"0"}))
        self.assertEqual((bench.numbers, bench.point), ({"p": told, "q": told}, {(1,): 1, (2,): 1}))
        self.assertEqual(bench.undo(many=100), ((bench_line("p", 59 * 100), bench_line("q", 59 * 100)), ("tie p 1", "tie q 1")))

    def test_figures(self):
        for factors in ((9,), (5, 2), (10 ** 59,), (LONGEST,), (LONGEST, LONGEST), (LONGEST, 7, 10 ** 59, 11), (10 ** 59, 10), (10 ** 59, 10, 10 ** 59 + 1)):
            bench = Bench(Disc.from_lines("rim p", "black b p"))
            told = 1
            for factor in factors:
                bench.rescale("b", (factor, 1))
                told *= factor
            self.assertIn(f"tie p {told}", bench)


def bench_line(tie, zeros):
    return f"tie {tie} 1" + "0" * zeros


class Names(Case):
    def test_renamed(self):
        for disc in discs_by_chance(40):
            for seed in (1, 2):
                other = renamed_by_chance(disc, seed)
                places, ties = naming_between(disc, other)
                bench = Bench(disc)
                for at, tie in enumerate(disc.ties):
                    bench.put_number(tie, at + 2)
                numbers, order, point = bench.numbers, bench.order, bench.point
                told = {ties[tie]: number for tie, number in numbers.items()}
                self.check(bench, lambda bench, places=places, ties=ties: bench.rename(places, ties), other,
                           {tie: told[tie] for tie in sorted(told)})
                self.assertEqual((bench.order, bench.point), (order, point))

    def test_wrong_names(self):
        places, ties = {place: place for place in SQUARE.places}, {tie: tie for tie in SQUARE.ties}
        no_places = not_one_of(())
        no_places[1].extend([{**places, "a": "b"}, {**places, "x": "y"}, {**places, "a": "A"}, list(places)])
        no_ties = not_one_of(())
        no_ties[1].extend([{**ties, "e": "f"}, {**ties, "x": "y"}, {**ties, "e": 1}])
        check_arguments(self, Bench(SQUARE).rename, (places, ties), [no_places, no_ties])


def naming_between(disc, other):
    """The dicts from names of the one disc to those of the other one, which is the same but for names."""
    ties = dict(zip(disc.rim, other.rim))
    places = {}
    while len(places) < len(disc.places) or len(ties) < len(disc):
        for tie in list(ties):
            for end, far in zip(disc.ends_of(tie), other.ends_of(ties[tie])):
                if isinstance(end, str):
                    places[end] = far
                    own, new = list(disc.round_of(end)), list(other.round_of(far))
                    at, seat = own.index(tie), new.index(ties[tie])
                    ties.update(zip(own[at:] + own[:at], new[seat:] + new[:seat]))
    return places, ties


class Pledges(Case):
    def test_judged(self):
        check_judge(self, is_pledge, [("thin",), ("short",)])
        for pledge in (*PLEDGES, ("let", ()), ("barred", (8,)), ("regions", 1), ("point", (1, 2, 3, 4, 5, 6, 7, 8), LONGEST), ("order", (1,)),
                       ("order", tuple(range(9, 17)))):
            self.assertIs(is_pledge(pledge), True, pledge)
        for value in (("thin", 1), ("thin", ()), "thin", ["thin"], ("Thin",), ("short", "thin"), ("let",), ("let", 1), ("let", (9,)), ("let", (0,)),
                      ("let", (2, 1)), ("let", (1, 1)), ("let", [1]), ("let", (True,)), ("let", (1,), (2,)), ("barred",), ("barred", "1"),
                      ("regions", 0), ("regions", -1), ("regions", True), ("regions", "1"), ("regions",), ("regions", 10 ** 60), ("regions", 1, 2),
                      ("point", (1,)), ("point", (1,), 0), ("point", (1,), True), ("point", (9,), 1), ("point", (1,), 10 ** 60), ("point", 1, 1),
                      ("point", (1,), 1, 1), ("order", (1, 1)), ("order", [1]), ("order", 1), ("order", ()), ("order", (True,)), ("order",),
                      ("order", Order((1,))), ("other",), (), (1,), (None,), (("thin",),)):
            self.assertIs(is_pledge(value), False, value)
        for value in (*wrong_values(), {}):
            for some in (value, ("let", value), ("point", (1,), value), ("point", value, 1), ("regions", value), ("order", value), (value,)):
                if value not in ((2, 4), (1, 2, 3)) or isinstance(value, list) or some == value:
                    self.assertIs(is_pledge(some), False, some)

    def test_demanded_and_waived(self):
        bench = Bench(SQUARE)
        for at, pledge in enumerate(PLEDGES):
            self.assertEqual(bench.demand(pledge), ((), ()))
            self.assertEqual((bench.pledges, bench.changes, len(bench), pledge in bench), (tuple(PLEDGES[:at + 1]), at + 1, at + 1, True))
        for pledge in PLEDGES:
            self.check_fails(bench, InvalidOperation, None, lambda bench, pledge=pledge: bench.demand(pledge))
        self.assertEqual(bench.waive(PLEDGES[2]), ((), ()))
        self.assertEqual(bench.pledges, tuple(PLEDGES[:2] + PLEDGES[3:]))
        self.check_fails(bench, InvalidOperation, None, lambda bench: bench.waive(PLEDGES[2]))
        bench.demand(PLEDGES[2])
        self.assertEqual(bench.pledges[-1], PLEDGES[2])

    def test_what_does_not_hold(self):
        for disc, pledges in ((SQUARE, [("order", (4, 3, 5, 6)), ("order", (1,)), ("let", (1,)), ("let", (1, 5)), ("let", (1, 2, 3)),
                                        ("barred", (1, 2)), ("regions", 4), ("point", (2, 4), 1), ("point", (1, 5), 1), ("point", (1,), 1)]),
                              (DOUBLE, [("thin",), ("barred", (1,)), ("point", (1,), 3)]), (moved(SQUARE, TURN), [("short",)])):
            for pledge in pledges:
                self.check_fails(Bench(disc), Refused, pledge, lambda bench, pledge=pledge: bench.demand(pledge))

    def test_what_holds(self):
        for disc, pledges in ((SQUARE, [("barred", (1, 5)), ("barred", (8,)), ("barred", ()), ("regions", 5), ("regions", 99)]), (DOUBLE, [("short",)]),
                              (moved(SQUARE, TURN), [("thin",), ("point", (1, 3), 2)]), (LINE, [("barred", (1, 2)), ("order", (2, 3))])):
            bench = Bench(disc)
            for pledge in pledges:
                bench.demand(pledge)
            self.assertEqual(bench.pledges, tuple(pledges))

    def test_the_first_one_that_would_not_hold(self):
        def with_pledges(*pledges):
            bench = Bench(SQUARE)
            for pledge in pledges:
                bench.demand(pledge)
            return bench
        changes = {
            (("thin",), ("short",), ("regions", 5), ("let", (1, 2))): {
                ("short",): lambda bench: bench.move(TURN), ("thin",): lambda bench: bench.bridge(1, ends=False)},
            (("point", (2, 4), 2), ("barred", (1,)), ("regions", 5)): {
                ("point", (2, 4), 2): lambda bench: bench.put_number("e", 2)},
            (("regions", 5), ("point", (2, 4), 2)): {("regions", 5): lambda bench: bench.bridge(1)},
            (("order", (3, 4, 5, 6)), ("let", (1, 3))): {("order", (3, 4, 5, 6)): lambda bench: bench.leave_out(("e",))},
            (("let", (1, 3)), ("order", (3, 4, 5, 6))): {("let", (1, 3)): lambda bench: bench.leave_out(("p",))},
            (("barred", (1, 2, 5)), ("thin",)): {("barred", (1, 2, 5)): lambda bench: bench.put_in(5, "white")},
            (("regions", 5), ("thin",), ("point", (2, 4), 2)): {("point", (2, 4), 2): lambda bench: bench.put_number("f", 9)},
        }
        for pledges, calls in changes.items():
            for pledge, call in calls.items():
                bench = with_pledges(*pledges)
                self.check_fails(bench, Refused, pledge, call)

    def test_those_that_hold_are_no_hindrance(self):
        bench = Bench(SQUARE)
        for pledge in (("thin",), ("let", (1, 2)), ("point", (2, 4), 2)):
            bench.demand(pledge)
        bench.move(TURN)
        bench.rescale("a", (3, 1))
        bench.put_number("p", bench.numbers["p"])
        self.assertEqual((bench.pledges, bench.changes), ((("thin",), ("let", (1, 2)), ("point", (2, 4), 2)), 6))

    def test_too_many(self):
        bench = Bench(SQUARE)
        for most in range(5, 15):
            bench.demand(("regions", most))
        self.check_fails(bench, TooMany, 10, lambda bench: bench.demand(("regions", 15)))
        self.check_fails(bench, TooMany, 10, lambda bench: bench.demand(("regions", 1)))
        self.check_fails(bench, InvalidOperation, None, lambda bench: bench.demand(("regions", 5)))
        self.check_fails(bench, InvalidOperation, None, lambda bench: bench.demand(None))
        bench.waive(("regions", 7))
        bench.demand(("regions", 15))
        self.assertEqual(len(bench), 10)

    def test_points_of_discs_with_too_many_pairings(self):
        tall = Bench(TALL)
        with self.assertRaises(TooMany) as caught:
            tall.point
        self.assertEqual(caught.exception.limit, 5000)
        chosen = let_sets(TALL)[0]
        self.check_fails(tall, TooMany, 5000, lambda bench: bench.demand(("point", chosen, 1)))
        self.check_fails(tall, Refused, ("thin",), lambda bench: bench.demand(("thin",)))

    def test_a_change_that_leads_to_too_many_pairings(self):
        bench = Bench(grid(2, 16, [0, 15, 18, 33]))
        places, number = next(iter(bench.point.items()))
        bench.demand(("point", places, number))
        self.check_fails(bench, TooMany, 5000, lambda bench: bench.bridge(2))
        bench.demand(("regions", bench.disc.regions))
        # The pledges are asked in the order of demands.
        self.check_fails(bench, TooMany, 5000, lambda bench: bench.bridge(2))
        bench.waive(("point", places, number))
        self.check_fails(bench, Refused, bench.pledges[0], lambda bench: bench.bridge(2))
        bench.demand(("point", places, number))
        self.check_fails(bench, Refused, bench.pledges[0], lambda bench: bench.bridge(2))
        bench.waive(bench.pledges[0])
        bench.waive(bench.pledges[0])
        bench.bridge(2)
        self.assertRaises(TooMany, lambda: bench.point)

    def test_wrong_values(self):
        for function in (Bench(SQUARE).demand, Bench(SQUARE).waive):
            no_pledges = not_one_of(())
            no_pledges[1].extend([("thin", 1), ["thin"], ("let", [1]), "thin"])
            check_arguments(self, function, (("thin",),), [no_pledges])


class UndoAndRedo(Case):
    def filled(self):
        bench = Bench(SQUARE)
        seen = [(bench.disc, bench.numbers, bench.pledges)]
        for call in (lambda bench: bench.put_number("e", 3), lambda bench: bench.demand(("thin",)), lambda bench: bench.move(TURN),
                     lambda bench: bench.put_in(2, "white"), lambda bench: bench.waive(("thin",)), lambda bench: bench.bridge(1, number=4),
                     lambda bench: bench.rescale("a", (2, 1)), lambda bench: bench.leave_out(())):
            call(bench)
            seen.append((bench.disc, bench.numbers, bench.pledges))
        return bench, seen

    def test_there_and_back(self):
        bench, seen = self.filled()
        most = len(seen) - 1
        for many in range(most + 1):
            before = bench.lines
            news = bench.undo(many=many)
            self.assertEqual((bench.disc, bench.numbers, bench.pledges), seen[most - many])
            self.assertEqual((bench.changes, news), (most - many, news_told(before, bench.lines)))
            before = bench.lines
            news = bench.redo(many=many)
            self.assertEqual((bench.disc, bench.numbers, bench.pledges), seen[most])
            self.assertEqual((bench.changes, news), (most, news_told(before, bench.lines)))
        self.assertEqual(bench.undo(many=0), ((), ()))

    def test_one_by_one(self):
        bench, seen = self.filled()
        for at in range(len(seen) - 2, -1, -1):
            bench.undo()
            self.assertEqual((bench.disc, bench.numbers, bench.pledges), seen[at])
        for at in range(1, len(seen)):
            bench.redo()
            self.assertEqual((bench.disc, bench.numbers, bench.pledges), seen[at])

    def test_beyond_what_there_is(self):
        bench, seen = self.filled()
        self.check_fails(bench, NothingToUndo, len(seen), lambda bench: bench.undo(many=len(seen)))
        self.check_fails(bench, NothingToUndo, 1, lambda bench: bench.redo())
        bench.undo(many=3)
        self.check_fails(bench, NothingToUndo, 4, lambda bench: bench.redo(many=4))
        self.check_fails(bench, NothingToUndo, LONGEST, lambda bench: bench.undo(many=LONGEST))
        self.check_fails(Bench(SQUARE), NothingToUndo, 1, lambda bench: bench.undo())

    def test_behind_another_change(self):
        bench, _ = self.filled()
        bench.undo(many=2)
        bench.put_number("p", bench.numbers["p"])
        self.check_fails(bench, NothingToUndo, 1, lambda bench: bench.redo())
        self.assertEqual(bench.changes, 7)

    def test_a_refused_change_leaves_what_can_be_done_again(self):
        bench, _ = self.filled()
        bench.undo(many=5)
        self.assertEqual(bench.pledges, (("thin",),))
        self.check_fails(bench, Refused, ("thin",), lambda bench: bench.bridge(1))
        self.check_fails(bench, InvalidMove, None, lambda bench: bench.move(None))
        bench.redo(many=5)
        self.assertEqual(bench.changes, 8)

    def test_pledges_come_back_and_are_not_asked(self):
        bench = Bench(SQUARE)
        bench.put_number("e", 2)
        bench.demand(("point", (2, 4), 3))
        # Ahead of the demand the pledge would not hold.
        self.assertEqual(bench.undo(many=2), (("tie e 2",), ("tie e 1",)))
        self.assertEqual((bench.pledges, bench.point[2, 4]), ((), 2))
        bench.redo(many=2)
        self.assertEqual(bench.pledges, (("point", (2, 4), 3),))
        bench.waive(("point", (2, 4), 3))
        bench.put_number("e", 1)
        bench.undo(many=2)
        self.assertEqual((bench.pledges, bench.numbers["e"]), ((("point", (2, 4), 3),), 2))

    def test_wrong_numbers(self):
        bench, _ = self.filled()
        bench.undo(many=1)
        for function in (bench.undo, bench.redo):
            check_arguments(self, function, (), [], named=[("many", InvalidNumber, [value for value in no_numbers(0, 0)[1] if value not in (1, 100)])])
            self.assertRaises(TypeError, function, 1)
        self.assertEqual(bench.changes, 7)


class Trials(Case):
    def filled(self):
        bench = Bench(SQUARE)
        bench.put_number("e", 2)
        bench.demand(("thin",))
        bench.move(TURN)
        bench.undo()
        return bench

    def test_behind_the_block(self):
        bench = self.filled()
        before = far(bench)
        with bench.trial() as same:
            self.assertIs(same, bench)
            bench.waive(("thin",))
            bench.bridge(2, number=5)
            bench.undo()
            bench.put_in(1, "black")
            self.assertNotEqual(far(bench), before)
        self.assertEqual(far(bench), before)
        bench.redo()
        self.assertEqual(bench.disc, moved(SQUARE, TURN))

    def test_behind_an_error_which_goes_on(self):
        bench = self.filled()
        before = far(bench)
        for error in (ValueError("mine"), Refused(("thin",)), KeyError("a")):
            with self.assertRaises(type(error)) as caught:
                with bench.trial():
                    bench.undo(many=2)
                    raise error
            self.assertIs(caught.exception, error)
            self.assertEqual(far(bench), before)
        with self.assertRaises(InvalidMove):
            with bench.trial() as same:
                same.put_number("p", 3)
                same.move(None)
        self.assertEqual(far(bench), before)

    def test_as_it_was_when_the_block_was_entered(self):
        bench = self.filled()
        trial = bench.trial()
        bench.put_number("q", 7)
        before = far(bench)
        with trial:
            bench.put_number("q", 8)
        self.assertEqual(far(bench), before)
        self.assertEqual(bench.numbers["q"], 7)

    def test_nested(self):
        bench = self.filled()
        before = far(bench)
        with bench.trial():
            bench.put_number("p", 2)
            between = far(bench)
            with bench.trial() as same:
                same.put_number("p", 3)
                with same.trial():
                    same.undo(many=3)
                self.assertEqual(bench.numbers["p"], 3)
            self.assertEqual(far(bench), between)
        self.assertEqual(far(bench), before)

    def test_during(self):
        bench = self.filled()
        before = far(bench)
        self.assertEqual(bench.during(lambda same: (same.put_number("p", 9), same.numbers["p"])), ((("tie p 1",), ("tie p 9",)), 9))
        self.assertEqual(far(bench), before)
        self.assertIs(bench.during(lambda same: same), bench)
        self.assertIsNone(bench.during(lambda same: None))
        self.check_fails(bench, InvalidMove, None, lambda bench: bench.during(lambda same: same.move(same.put_number("p", 9))))
        self.assertEqual(bench.during(lambda same: same.during(lambda again: again.undo(many=2))), bench.during(lambda same: same.undo(many=2)))
        self.assertEqual(far(bench), before)

    def test_twins(self):
        bench = self.filled()
        twin = bench.twin()
        self.assertIsNot(twin, bench)
        self.assertEqual((twin, far(twin)), (bench, far(bench)))
        before = far(bench)
        twin.redo()
        twin.put_number("p", 5)
        self.assertEqual(far(bench), before)
        other = bench.twin()
        bench.undo(many=2)
        self.assertEqual(far(other), before)
        inside = bench.during(lambda same: (same.put_number("p", 5), same.twin()))[1]
        self.assertEqual((inside.numbers["p"], bench.numbers["p"], inside.changes), (5, 1, 1))


class Statements(Case):
    def test_a_row_of_changes(self):
        # [18.2]
        for disc in [*discs_by_chance(40)[::2], disc_of(top_order(6, 3))]:
            chance = random.Random(len(disc))
            bench = Bench(disc)
            for _ in range(6):
                order, point, twin = bench.order, bench.point, bench.twin()
                moves = list(each_move(bench.disc))
                word = chance.choice(["move", "rescale", "put_number", "rename"])
                if word == "move" and moves:
                    news = bench.move(chance.choice(moves))
                elif word == "put_number":
                    news = bench.put_number(chance.choice(bench.disc.ties), chance.randint(1, 5))
                elif word == "rename":
                    names = naming_between(bench.disc, renamed_by_chance(bench.disc, len(disc)))
                    news = bench.rename(*names)
                else:
                    news = bench.rescale(chance.choice(bench.disc.places), (chance.randint(1, 5), 1))
                self.assertEqual(bench.order, order)
                if word != "put_number":
                    self.assertEqual(bench.point, point)
                self.assertEqual(news, news_told(twin.lines, bench.lines))

    def test_shortened_on_a_bench(self):
        bench = Bench(moved(SQUARE, TURN))
        for place in "abcd":
            bench.move(("draw", place))
        self.assertEqual(bench.disc, shortened(moved(SQUARE, TURN)))
        bench.demand(("short",))

    def test_defined_in_its_module(self):
        self.assertEqual((Bench.__module__, is_pledge.__module__), (module.__name__, module.__name__))
        self.assertRaises(InvalidDisc, Bench, BLACK.lines)


if __name__ == "__main__":
    unittest.main()
