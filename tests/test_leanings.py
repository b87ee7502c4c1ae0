"""[5.1] to [5.5]: leanings, their sources, and families of ways and rings."""

import itertools
import unittest

from rimtrails.base.discs import Disc
from rimtrails.errors import InvalidLeaning, InvalidOperation, InvalidPairing
from rimtrails.pair import leanings
from rimtrails.pair.leanings import (is_family, is_leaning, leaning_of, pairing_behind, pairing_by, sources,
                                     ways_between)
from rimtrails.pair.pairings import each_pairing, set_of_pairing
from tests.many_discs import discs_by_chance, grid
from tests.refusals import check_arguments, check_judge, check_unchanged, no_discs, not_one_of
from tests.samples import BLACK, DOUBLE, HUNG, LINE, SQUARE, STAR, wrong_values

LEAN = leaning_of(SQUARE, ("e", "g"))
MANY = discs_by_chance(120, 13)


def tail(disc, leaning, tie):
    return next(end for end in disc.ends_of(tie) if end != leaning[tie])


def all_leanings(disc):
    """All leanings, by the words of [5.1]."""
    found = []
    for ends in itertools.product(*(disc.ends_of(tie) for tie in disc.ties)):
        leaning = dict(zip(disc.ties, ends))
        away = [tail(disc, leaning, tie) for tie in disc.ties]
        if all(away.count(place) == 1 for place in disc.black) and all(ends.count(place) == 1 for place in disc.white):
            found.append(leaning)
    return found


def all_families(disc, leaning):
    """All families, by the words of [5.3]: each by the tuple that tells it."""
    found = []

    def go_on(ties, met):
        head = leaning[ties[-1]]
        first = tail(disc, leaning, ties[0])
        if isinstance(head, int):
            if isinstance(first, int) and len(ties) > 1:
                found.append((ties, met))
            return
        if head == first and ties[0] == min(ties):
            found.append((ties, met | {head}))
        if head in met or head == first:
            return
        for tie in disc.round_of(head):
            if tail(disc, leaning, tie) == head:
                go_on((*ties, tie), met | {head})
    for tie in disc.ties:
        go_on((tie,), frozenset())
    families = []

    def choose(at, chosen, met):
        if at == len(found):
            families.append(tuple(sorted(chosen)))
            return
        choose(at + 1, chosen, met)
        if not found[at][1] & met:
            choose(at + 1, [*chosen, found[at][0]], met | found[at][1])
    choose(0, [], frozenset())
    return families


class Examples(unittest.TestCase):
    def test_leanings(self):
        told = [LEAN, sources(SQUARE, LEAN), pairing_by(SQUARE, LEAN)]
        self.assertEqual(told, [{"e": "a", "f": "b", "g": "c", "h": "d", "p": 1, "q": "b", "r": 3, "s": "d"}, (2, 4), ("e", "g")])

    def test_ways(self):
        told = [ways_between(SQUARE, LEAN, pairing)
                for pairing in (("f", "h"), ("g", "p", "q"), ("p", "q", "r", "s"), ("e", "g"))]
        self.assertEqual(told, [(("e", "h", "g", "f"),), (("q", "e", "p"),), (("q", "e", "p"), ("s", "g", "r")), ()])

    def test_families(self):
        told = [pairing_behind(SQUARE, LEAN, (("s", "g", "r"),)), pairing_behind(SQUARE, LEAN, (("q", "e", "h", "g", "r"),)),
                is_family(SQUARE, LEAN, (("e", "h", "g", "f"), ("q", "e", "p")))]
        self.assertEqual(told, [("e", "r", "s"), ("h", "q", "r"), False])

    def test_of_other_discs(self):
        self.assertEqual(ways_between(DOUBLE, leaning_of(DOUBLE, ("e",)), ("f",)), (("e", "f"),))
        lean = leaning_of(STAR, ("q",))
        told = [lean, sources(STAR, lean), sources(BLACK, leaning_of(BLACK, ("q",)))]
        self.assertEqual(told, [{"p": 1, "q": "w", "r": 3}, (2,), (1, 3)])


class Leanings(unittest.TestCase):
    def test_there_and_back(self):
        for disc in MANY:
            for pairing in each_pairing(disc):
                leaning = leaning_of(disc, pairing)
                self.assertEqual(list(leaning), list(disc.ties))
                self.assertIs(is_leaning(disc, leaning), True)
                self.assertEqual(pairing_by(disc, leaning), pairing)
                self.assertEqual(sources(disc, leaning), set_of_pairing(disc, pairing))

    def test_which_ties_lean_to_their_white_end(self):
        for disc in MANY[::4]:
            for pairing in each_pairing(disc):
                for tie, end in leaning_of(disc, pairing).items():
                    first, last = disc.ends_of(tie)
                    white = last if disc.colour(last) == "white" else first
                    self.assertEqual(end == white, tie in pairing)

    def test_all_are_those_of_pairings(self):
        for disc in (LINE, STAR, BLACK, DOUBLE, HUNG, SQUARE, *[disc for disc in MANY if len(disc) <= 9]):
            found = sorted([list(leaning.items()) for leaning in all_leanings(disc)], key=repr)
            told = [list(leaning_of(disc, pairing).items()) for pairing in each_pairing(disc)]
            self.assertEqual(found, sorted(told, key=repr))

    def test_judged(self):
        for disc in (LINE, STAR, BLACK, DOUBLE, HUNG, SQUARE, Disc.from_lines("rim p", "black b p"), *MANY[-12:]):
            if len(disc) <= 10:
                others = [dict(zip(disc.ties, ends)) for ends in itertools.product(*(disc.ends_of(tie) for tie in disc.ties))]
                check_judge(self, lambda value, disc=disc: is_leaning(disc, value), all_leanings(disc), others)

    def test_in_another_order_of_keys(self):
        turned = dict(reversed(LEAN.items()))
        self.assertIs(is_leaning(SQUARE, turned), True)
        self.assertEqual(pairing_by(SQUARE, turned), ("e", "g"))
        self.assertEqual(ways_between(SQUARE, turned, ("g", "p", "q")), (("q", "e", "p"),))

    def test_true_is_not_one(self):
        lean = leaning_of(LINE, ("p",))
        self.assertEqual(lean, {"p": 1, "q": "b"})
        self.assertIs(is_leaning(LINE, {"p": True, "q": "b"}), False)
        self.assertIs(is_leaning(SQUARE, {**LEAN, "p": True}), False)

    def test_a_returned_dict_is_free(self):
        lean = leaning_of(SQUARE, ("e", "g"))
        lean["e"] = "b"
        self.assertEqual(leaning_of(SQUARE, ("e", "g")), LEAN)


class Families(unittest.TestCase):
    def test_they_belong_to_the_pairings(self):
        rings = ways = 0
        for disc in MANY:
            pairings = list(each_pairing(disc))[:12]
            for one, other in itertools.product(pairings[:5], pairings):
                leaning = leaning_of(disc, one)
                family = ways_between(disc, leaning, other)
                self.assertEqual({tie for way in family for tie in way}, set(one) ^ set(other))
                self.assertIs(is_family(disc, leaning, family), True)
                self.assertEqual(pairing_behind(disc, leaning, family), other)
                begun = [way for way in family if isinstance(tail(disc, leaning, way[0]), int)]
                self.assertEqual(len(begun) == 0, set_of_pairing(disc, one) == set_of_pairing(disc, other))
                ways += len(begun) > 1
                rings += len(begun) < len(family)
        self.assertGreater(ways, 100)
        self.assertGreater(rings, 100)

    def test_they_are_all_that_there_are(self):
        for disc in MANY:
            pairings = list(each_pairing(disc))
            leaning = leaning_of(disc, pairings[len(pairings) // 2])
            told = [ways_between(disc, leaning, other) for other in pairings]
            self.assertEqual(sorted(told), sorted(all_families(disc, leaning)))

    def test_judged(self):
        for disc in (SQUARE, STAR, DOUBLE, HUNG, *[disc for disc in MANY if 6 < len(disc) < 11][:12]):
            pairings = list(each_pairing(disc))
            leaning = leaning_of(disc, pairings[0])
            right = all_families(disc, leaning)
            if len(right) <= 40:
                check_judge(self, lambda value: is_family(disc, leaning, value), right)

    def test_turned_cut_and_begun_elsewhere(self):
        right = (("e", "h", "g", "f"),)
        self.assertIs(is_family(SQUARE, LEAN, right), True)
        for value in ((("h", "g", "f", "e"),), (("e", "f", "g", "h"),), (("e", "h", "g"),), (("f", "e", "h", "g"),),
                      (("e", "h", "g", "f", "e"),), (("e", "h", "g", "f") * 2,), (("q", "e"),), (("e", "p"),), (("q",),),
                      (("p", "e", "q"),), (("q", "e", "h", "g", "f", "e", "p"),), (("s", "g", "r"), ("q", "e", "p")),
                      (("q", "e", "p"), ("q", "e", "p")), (("q", "e", "h", "g", "r"), ("s", "g", "r")), ((),), (("p", "r"),)):
            self.assertIs(is_family(SQUARE, LEAN, value), False, value)
        self.assertIs(is_family(SQUARE, LEAN, (("q", "e", "p"), ("s", "g", "r"))), True)
        self.assertIs(is_family(SQUARE, LEAN, ()), True)

    def test_ways_that_begin_and_end_alike(self):
        disc = Disc.from_lines("rim p q", "black b p e f", "white a q f e")
        lean = leaning_of(disc, ("p", "q"))
        self.assertEqual(sources(disc, lean), (2,))
        self.assertEqual([ways_between(disc, lean, (tie,)) for tie in "ef"], [(("q", "e", "p"),), (("q", "f", "p"),)])

    def test_large_discs(self):
        disc = grid(5, 6, [0, 2, 5, 8, 10, 13, 16, 19])
        pairings = list(itertools.islice(each_pairing(disc), 0, 2000, 400))
        for one, other in itertools.product(pairings, repeat=2):
            leaning = leaning_of(disc, one)
            self.assertEqual(pairing_behind(disc, leaning, ways_between(disc, leaning, other)), other)


class WrongArguments(unittest.TestCase):
    def setUp(self):
        self.no_pairings = not_one_of((), InvalidPairing)
        self.no_pairings[1].extend([("p",), ["e", "g"], ("g", "e")])
        self.no_leanings = not_one_of((), InvalidLeaning)
        self.no_leanings[1].extend([{**LEAN, "p": True}, {**LEAN, "x": 1}, {**LEAN, "q": 2}, list(LEAN.items()), ("e", "g")])

    def test_of_each_function(self):
        check_arguments(self, leaning_of, (SQUARE, ("e", "g")), [no_discs(), self.no_pairings])
        for function in (pairing_by, sources):
            check_arguments(self, function, (SQUARE, LEAN), [no_discs(), self.no_leanings])
        check_arguments(self, is_leaning, (SQUARE, None), [no_discs()])
        check_arguments(self, ways_between, (SQUARE, LEAN, ("e", "g")), [no_discs(), self.no_leanings, self.no_pairings])
        no_families = not_one_of([()], InvalidOperation)
        no_families[1].extend([[], (("q",),), [("q", "e", "p")], (["q", "e", "p"],)])
        check_arguments(self, pairing_behind, (SQUARE, LEAN, ()), [no_discs(), self.no_leanings, no_families])
        check_arguments(self, is_family, (SQUARE, LEAN, ()), [no_discs(), self.no_leanings])

    def test_what_is_passed_stays_as_it_was(self):
        for function in (lambda lean: pairing_by(SQUARE, lean), lambda lean: sources(SQUARE, lean),
                         lambda lean: ways_between(SQUARE, lean, ("p", "q", "r", "s")),
                         lambda lean: pairing_behind(SQUARE, lean, (("q", "e", "p"),)),
                         lambda lean: is_leaning(SQUARE, lean), lambda lean: is_family(SQUARE, lean, ())):
            check_unchanged(self, dict(reversed(LEAN.items())), function)

    def test_ways_of_wrong_values(self):
        for value in (*wrong_values(), 1, "q"):
            self.assertIs(is_family(SQUARE, LEAN, (value,)), False)
            self.assertIs(is_family(SQUARE, LEAN, (("q", "e", value),)), False)

    def test_the_functions_are_defined_in_their_module(self):
        for function in (leaning_of, pairing_by, is_leaning, sources, ways_between, pairing_behind, is_family):
            self.assertEqual(function.__module__, leanings.__name__)


if __name__ == "__main__":
    unittest.main()
