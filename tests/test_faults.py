"""[10.1] to [10.4]: what is left of discs, and which ones are thin."""

import itertools
import unittest

from rimtrails.base.discs import Disc
from rimtrails.base.trails import round_trails, trail, trail_ends
from rimtrails.base.webs import from_least
from rimtrails.base.words import nth_name
from rimtrails.build.bridges import bare_disc, disc_of
from rimtrails.errors import InvalidOperation
from rimtrails.order.necklaces import order_of
from rimtrails.order.orders import each_order
from rimtrails.pair.pairings import each_pairing, let_sets, set_of_pairing
from rimtrails.thin import faults
from rimtrails.thin.faults import can_go, fault_of, is_fault, is_needed_sets, is_thin, left_out, needed_sets
from tests.many_discs import discs_by_chance, grid
from tests.refusals import check_arguments, check_judge, check_refused, no_discs, no_ties, not_one_of
from tests.samples import BLACK, DOUBLE, HUNG, LINE, SQUARE, STAR, wrong_values

HANG = Disc.from_lines("rim p", "black b p e", "white a e")
LOOP = Disc.from_lines("rim p", "white w p e f", "black b e f")
MANY = discs_by_chance(300)
KINDS = ("end", "round", "both", "twice", "fixed")


def can_be_left_out(disc, ties):
    return any(not set(pairing) & set(ties) for pairing in each_pairing(disc))


def left_told(disc, ties):
    """What is left, by the words of [10.1], tie by tie, but for the names of new dead ends."""
    names = (name for name in map(nth_name, range(700)) if name not in disc.places)
    black, white = disc.black, disc.white
    for tie in sorted(ties, key=lambda tie: disc.rim.index(tie) if tie in disc.rim else -1):
        for rounds in (black, white):
            for place in rounds:
                rounds[place] = tuple(other for other in rounds[place] if other != tie)
        if tie in disc.rim:
            colour = disc.colour(disc.inner_end(disc.rim.index(tie) + 1))
            (white if colour == "black" else black)[next(names)] = (tie,)
    rounds = {**black, **white}
    met = {place for place in rounds if set(rounds[place]) & set(disc.rim)}
    grown = None
    while grown != met:
        grown = set(met)
        met |= {place for place in rounds if any(set(rounds[place]) & set(rounds[other]) for other in grown)}
    return Disc(disc.rim, {place: from_least(ties) for place, ties in black.items() if place in met},
                {place: from_least(ties) for place, ties in white.items() if place in met})


def tie_tuples(disc, most):
    return [some for size in range(most + 1) for some in itertools.combinations(disc.ties, size)]


def dead_ends(disc):
    return [at for at in range(1, disc.many + 1) if len(disc.round_of(disc.inner_end(at))) == 1]


def faults_told(disc):
    """All faults, by the words of [10.3]."""
    inner = [tie for tie in disc.ties if tie not in disc.rim]
    places = range(1, disc.many + 1)
    walks = {at: [tie for tie, _ in trail(disc, at)] for at in places}
    found = [("end", place) for place in disc.places if len(disc.round_of(place)) == 1 and disc.round_of(place)[0] in inner]
    found += [("round", tie) for tie in disc.ties if any(tie == step[0] for steps in round_trails(disc) for step in steps)]
    found += [("both", at, tie) for at in places if at not in dead_ends(disc) for tie in disc.ties if walks[at].count(tie) == 2]
    found += [("fixed", at) for at in places if at not in dead_ends(disc) and trail_ends(disc)[at - 1] == at]

    def comes(at, one, other):
        return any(walks[at][first] == one and walks[at][last] == other
                   for first, last in itertools.combinations(range(len(walks[at])), 2))
    for one, other in itertools.permutations(inner, 2):
        met = [at for at in places if comes(at, one, other)]
        found += [("twice", i, j, one, other) for i, j in itertools.combinations(met, 2)]
    return found


class Examples(unittest.TestCase):
    def test_thin_discs(self):
        told = [is_thin(SQUARE), is_thin(STAR), is_thin(LINE), is_thin(DOUBLE), is_thin(HANG), is_thin(LOOP), fault_of(BLACK)]
        self.assertEqual(told, [True, True, True, False, False, False, None])

    def test_what_is_left(self):
        told = [left_out(DOUBLE, ("e",)).lines, left_out(STAR, ("p",)).lines, left_out(HANG, ("p",)).lines,
                left_out(LOOP, ("e", "p")).lines]
        self.assertEqual(told, [("rim p q", "white a f q", "black b f p"), ("rim p q r", "black a p", "white w q r"),
                                ("rim p", "white c p"), ("rim p", "black a p")])
        with self.assertRaises(InvalidOperation):
            left_out(LINE, ("p", "q"))

    def test_what_can_go(self):
        told = [can_go(DOUBLE, "e"), can_go(DOUBLE, "p"), can_go(STAR, "p"), can_go(HANG, "p"), can_go(HANG, "e")]
        self.assertEqual(told, [True, False, False, True, False])

    def test_faults(self):
        told = [is_fault(DOUBLE, ("twice", 1, 2, "f", "e")), is_fault(DOUBLE, ("twice", 1, 2, "e", "f")),
                is_fault(DOUBLE, ("fixed", 2)), is_fault(DOUBLE, ("both", 1, "p")), is_fault(DOUBLE, ("both", 1, "e"))]
        self.assertEqual(told, [True, False, True, True, False])
        told = [is_fault(HANG, ("end", "a")), is_fault(HANG, ("both", 1, "e")), is_fault(LOOP, ("round", "e")),
                is_fault(LOOP, ("round", "p")), is_fault(STAR, ("end", "w"))]
        self.assertEqual(told, [True, True, True, False, False])

    def test_needed_sets(self):
        told = [needed_sets(LINE), needed_sets(BLACK), needed_sets(DOUBLE), is_needed_sets(LINE, {"p": (1,), "q": (2,)})]
        self.assertEqual(told, [{"p": (2,), "q": (1,)}, {"p": (2, 3), "q": (1, 3), "r": (1, 2)}, None, False])


class LeftOut(unittest.TestCase):
    def test_one_or_several_ties(self):
        done = 0
        for disc in MANY[:150]:
            for ties in tie_tuples(disc, 3)[::3]:
                if can_be_left_out(disc, ties):
                    self.assertEqual(left_out(disc, ties), left_told(disc, ties), (disc.lines, ties))
                    done += 1
                else:
                    check_refused(self, InvalidOperation, None, left_out, disc, ties)
        self.assertGreater(done, 1000)

    def test_the_let_sets_of_what_is_left(self):
        for disc in MANY[:80]:
            for ties in tie_tuples(disc, 3)[::5]:
                told = sorted({set_of_pairing(disc, pairing) for pairing in each_pairing(disc) if not set(pairing) & set(ties)})
                if told:
                    self.assertEqual(let_sets(left_out(disc, ties)), tuple(told))

    def test_nothing_is_left_out(self):
        for disc in MANY:
            self.assertEqual(left_out(disc, ()), disc)

    def test_places_that_go_along(self):
        disc = Disc.from_lines("rim p", "black b p e", "white a e f g", "black c f g")
        for ties in (("e",), ("e", "f"), ("e", "g")):
            self.assertEqual(left_out(disc, ties).lines, ("rim p", "black b p"))
        self.assertEqual(left_out(disc, ("f",)).lines, ("rim p", "white a e g", "black b e p", "black c g"))
        far = Disc.from_lines("rim p q", "black b p e", "white a e", "white d q")
        self.assertEqual(left_out(far, ("p",)).lines, ("rim p q", "white c p", "white d q"))

    def test_new_names_in_the_order_of_the_rim_places(self):
        disc = Disc.from_lines("rim z y x w", "black b z y x w")
        self.assertEqual(left_out(disc, ("w", "x", "z")).lines, ("rim z y x w", "white a z", "black b y", "white c x", "white d w"))
        self.assertEqual(left_out(STAR, ("p", "r")).lines, ("rim p q r", "black a p", "black b r", "white w q"))
        # A name of a place that goes is not free.
        self.assertEqual(left_out(HANG, ("p",)).places, ("c",))

    def test_a_dead_end_at_the_rim_stays(self):
        for tie, colour in (("a", "black"), ("b", "white")):
            disc = bare_disc(("black", "white"))
            check_refused(self, InvalidOperation, None, left_out, disc, (tie,))
            self.assertEqual(disc.colour(tie), colour)

    def test_one_after_the_other(self):
        for disc in MANY[:60]:
            for ties in itertools.combinations(disc.ties, 2):
                if can_be_left_out(disc, ties):
                    first = left_out(disc, ties[:1])
                    again = left_out(first, ties[1:]) if ties[1] in first else first
                    self.assertEqual(again.named_anew, left_out(disc, ties).named_anew)

    def test_the_disc_stays_as_it_was(self):
        lines = DOUBLE.lines
        left_out(DOUBLE, ("e",))
        self.assertEqual(DOUBLE.lines, lines)


class Thin(unittest.TestCase):
    def test_what_can_go(self):
        for disc in MANY:
            let = let_sets(disc)
            for tie in disc.ties:
                told = can_be_left_out(disc, (tie,)) and let_sets(left_out(disc, (tie,))) == let
                self.assertIs(can_go(disc, tie), told, (disc.lines, tie))

    def test_these_are_the_same(self):
        found = []
        for disc in MANY + discs_by_chance(120, 24):
            thin = not any(can_go(disc, tie) for tie in disc.ties)
            self.assertIs(is_thin(disc), thin)
            self.assertIs(fault_of(disc) is None, thin)
            self.assertIs(needed_sets(disc) is not None, thin)
            size = order_of(disc).size
            used = {tie for pairing in each_pairing(disc) for tie in pairing}
            self.assertIs(used == set(disc.ties) and disc.regions == size + 1, thin)
            self.assertGreater(disc.regions, size)
            found.append(thin)
        self.assertGreater(min(found.count(True), found.count(False)), 50)

    def test_the_order_is_told_by_the_trails(self):
        for disc in MANY:
            if is_thin(disc):
                order = order_of(disc)
                self.assertEqual(order.ends, trail_ends(disc))
                self.assertEqual(list(order.marks), dead_ends(disc))
                for at, colour in order.marks.items():
                    self.assertEqual(disc.colour(disc.inner_end(at)), colour)

    def test_discs_of_all_orders_of_few(self):
        for many in range(1, 5):
            for order in each_order(many):
                self.assertIs(is_thin(disc_of(order)), True)

    def test_large_discs(self):
        disc = grid(5, 6, [0, 2, 5, 8, 10, 13, 16, 19])
        self.assertIs(is_thin(disc), False)
        self.assertIs(is_fault(disc, fault_of(disc)), True)
        self.assertIs(any(can_go(disc, tie) for tie in disc.ties[:3]), True)


class Faults(unittest.TestCase):
    def test_one_is_found(self):
        kinds = set()
        for disc in MANY:
            told = faults_told(disc)
            fault = fault_of(disc)
            self.assertEqual(fault is None, told == [])
            if fault is not None:
                self.assertIn(fault, told)
                self.assertIs(is_fault(disc, fault), True)
            kinds |= {fault[0] for fault in told}
        self.assertEqual(kinds, set(KINDS))

    def test_each_kind_alone_is_found(self):
        # A fault of the other kinds always comes with one of these.
        alone = {}
        for disc in discs_by_chance(600):
            kinds = {fault[0] for fault in faults_told(disc)}
            if len(kinds) == 1:
                alone.setdefault(min(kinds), disc)
        for kind, disc in alone.items():
            self.assertEqual(fault_of(disc)[0], kind)
        self.assertEqual(set(alone), {"round", "both", "twice"})

    def test_judged(self):
        for disc in (SQUARE, STAR, LINE, DOUBLE, HANG, LOOP, HUNG, BLACK, *MANY[-20:]):
            told = faults_told(disc)
            others = [("end", place) for place in disc.places] + [("round", tie) for tie in disc.ties]
            others += [("fixed", at) for at in range(0, 9)] + [("both", at, tie) for at in range(0, 9) for tie in disc.ties]
            others += [("twice", i, j, *ties) for i in range(0, 5) for j in range(0, 5) for ties in itertools.product(disc.ties[:5], repeat=2)]
            self.check_some(disc, told, others)

    def check_some(self, disc, told, others):
        right = {repr(fault) for fault in told}
        for value in others:
            self.assertIs(is_fault(disc, value), repr(value) in right, (disc.lines, value))
        if told and len(told) < 60:
            check_judge(self, lambda value: is_fault(disc, value), told)

    def test_dead_ends_at_the_rim_are_none(self):
        for marks in (("black",), ("white",), ("black", "white")):
            disc = bare_disc(marks)
            self.assertIsNone(fault_of(disc))
            for value in (("end", "a"), ("fixed", 1), ("both", 1, "a"), ("round", "a"), ("twice", 1, 2, "a", "b")):
                self.assertIs(is_fault(disc, value), False)

    def test_values_of_other_kinds(self):
        for kind in KINDS:
            for value in (*wrong_values(), (), {}, 0, "a"):
                for some in ((kind,), (kind, value), (kind, 1, value), (kind, value, "p"), (kind, 1, 2, "e", value),
                             (kind, 1, 2, value, "e"), (kind, value, 2, "f", "e"), (kind, 1, value, "f", "e")):
                    self.assertIs(is_fault(DOUBLE, some), False, some)
        for some in (["fixed", 1], ("fixed", True), ("both", True, "p"), ("twice", True, 2, "f", "e"), ("fixed",), ("Fixed", 1),
                     ("twice", 2, 1, "f", "e"), ("twice", 1, 1, "f", "e"), ("twice", 1, 2, "f", "f"), ("twice", 1, 2, "p", "q"),
                     ("twice", 1, 2, "f", "e", "e"), ("both", 1), ("fixed", 1, "p"), ("fixed", 3), ("fixed", 0)):
            self.assertIs(is_fault(DOUBLE, some), False, some)


class NeededSets(unittest.TestCase):
    def all_needed(self, disc):
        """For each tie the let sets that need it, found by all pairings."""
        by_set = {}
        for pairing in each_pairing(disc):
            by_set.setdefault(set_of_pairing(disc, pairing), []).append(pairing)
        ended = [disc.rim[at - 1] for at in dead_ends(disc)]
        return {tie: [chosen for chosen, pairings in by_set.items() if all(tie in pairing for pairing in pairings)]
                for tie in disc.ties if tie not in ended}

    def test_found(self):
        for disc in MANY:
            needed = needed_sets(disc)
            told = self.all_needed(disc)
            self.assertEqual(needed is None, not all(told.values()))
            if needed is not None:
                self.assertEqual(list(needed), list(told))
                self.assertTrue(all(needed[tie] in told[tie] for tie in told))
                self.assertIs(is_needed_sets(disc, needed), True)

    def test_judged(self):
        for disc in (SQUARE, STAR, LINE, BLACK, *[disc for disc in MANY if is_thin(disc) and len(disc) < 9][:12]):
            told = self.all_needed(disc)
            right = list(itertools.islice((dict(zip(told, chosen)) for chosen in itertools.product(*told.values())), 4))
            every = {repr(chosen) for sets in told.values() for chosen in sets}
            for needed in right:
                self.assertIs(is_needed_sets(disc, needed), True)
                for tie in told:
                    for chosen in (*let_sets(disc), (1, 2, 3, 4, 5), (), (1,), (9,)):
                        self.assertIs(is_needed_sets(disc, {**needed, tie: chosen}), chosen in told[tie])
                    for value in (*wrong_values(), [1], list(needed[tie]), None, 1):
                        if repr(value) not in every:
                            self.assertIs(is_needed_sets(disc, {**needed, tie: value}), False, value)
                    rest = {other: needed[other] for other in needed if other != tie}
                    self.assertIs(is_needed_sets(disc, rest), False)
                    self.assertIs(is_needed_sets(disc, {**rest, "nosuch": needed[tie]}), False)
                for other in ("nosuch", 1, None, (), *disc.places, *[disc.rim[at - 1] for at in dead_ends(disc)]):
                    if other not in told:
                        self.assertIs(is_needed_sets(disc, {**needed, other: let_sets(disc)[0]}), False)
                self.assertIs(is_needed_sets(disc, dict(reversed(needed.items()))), True)
            for value in (*wrong_values(), 1, list(right[0].items()), tuple(right[0])):
                self.assertIs(is_needed_sets(disc, value), False)
            self.assertIs(is_needed_sets(disc, {}), len(told) == 0)

    def test_true_is_not_one(self):
        self.assertIs(is_needed_sets(LINE, {"p": (2,), "q": (1,)}), True)
        self.assertIs(is_needed_sets(LINE, {"p": (2,), "q": (True,)}), False)
        self.assertIs(is_needed_sets(LINE, {"p": (2,), "q": [1]}), False)

    def test_dead_ends_alone(self):
        disc = bare_disc(("black", "white"))
        self.assertEqual(needed_sets(disc), {})
        self.assertIs(is_needed_sets(disc, {}), True)
        self.assertIs(is_needed_sets(disc, {"a": (2,)}), False)

    def test_none_of_discs_that_are_not_thin(self):
        for disc in (DOUBLE, HANG, LOOP):
            self.assertIs(is_needed_sets(disc, {tie: (1,) for tie in disc.ties}), False)
            self.assertIs(is_needed_sets(disc, {}), False)

    def test_a_returned_dict_is_free(self):
        needed = needed_sets(LINE)
        needed["p"] = (1,)
        self.assertEqual(needed_sets(LINE), {"p": (2,), "q": (1,)})


class WrongArguments(unittest.TestCase):
    def test_of_each_function(self):
        no_tuples = not_one_of([()], InvalidOperation)
        no_tuples[1].extend([("f", "e"), ("e", "e"), ["e"], "e", ("x",), ("e", "x"), ("b",), ("e", 1)])
        check_arguments(self, left_out, (DOUBLE, ("e",)), [no_discs(), no_tuples])
        check_arguments(self, can_go, (DOUBLE, "e"), [no_discs(), no_ties(DOUBLE)])
        for function in (is_thin, fault_of, needed_sets):
            check_arguments(self, function, (DOUBLE,), [no_discs()])
        for function in (is_fault, is_needed_sets):
            check_arguments(self, function, (DOUBLE, None), [no_discs()])

    def test_the_functions_are_defined_in_their_module(self):
        for function in (left_out, can_go, is_thin, fault_of, is_fault, needed_sets, is_needed_sets):
            self.assertEqual(function.__module__, faults.__name__)


if __name__ == "__main__":
    unittest.main()
