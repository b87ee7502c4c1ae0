"""[4.1] to [4.3]: pairings, let sets, bars and lacks."""

import inspect
import itertools
import unittest

from rimtrails.base.discs import Disc
from rimtrails.errors import InvalidDisc, InvalidPairing, InvalidSet, TooMany
from rimtrails.pair import pairings
from rimtrails.pair.pairings import (bar_of, count_pairings, each_pairing, is_bar, is_lack, is_let, is_pairing, lack_in,
                                     let_sets, pairing_with, set_of_pairing)
from tests.many_discs import discs_by_chance, grid
from tests.refusals import check_arguments, check_judge, check_refused, no_discs, not_one_of
from tests.samples import BLACK, DOUBLE, HUNG, LINE, SQUARE, STAR, common_ties, wrong_values

SOME = Disc.from_lines("rim p q r", "white w p q", "black b r")
MANY = discs_by_chance(150)
NO_DISC = ("a",), {"x": ("a", "b", "c")}, {"y": ("b",), "z": ("c",)}


def all_pairings(disc):
    """All pairings, found tie by tie."""
    found = []

    def go_on(at, pairing, met):
        if at == len(disc.ties):
            if len(met) == len(disc.places):
                found.append(pairing)
            return
        ends = [end for end in disc.ends_of(disc.ties[at]) if isinstance(end, str)]
        if not set(ends) & met:
            go_on(at + 1, (*pairing, disc.ties[at]), met | set(ends))
        go_on(at + 1, pairing, met)
    go_on(0, (), frozenset())
    return sorted(found)


def set_told(disc, pairing):
    """The set, by the words of [4.1]."""
    return tuple(index for index, tie in enumerate(disc.rim, 1)
                 if (tie in pairing) == (disc.colour(disc.inner_end(index)) == "white"))


def rim_tuples(many):
    return [some for size in range(many + 1) for some in itertools.combinations(range(1, many + 1), size)]


def bars_told(disc, chosen):
    """All bars, by the words of [4.2]."""
    used = [index for index in range(1, disc.many + 1)
            if (index in chosen) == (disc.colour(disc.inner_end(index)) == "white")]
    found = set()
    for colour in ("black", "white"):
        own = [place for place in disc.places if disc.colour(place) == colour]
        rims = [index for index in used if disc.colour(disc.inner_end(index)) != colour]
        for places in subsets(own):
            for some in subsets(rims):
                near = {disc.inner_end(index) for index in some}
                for place in places:
                    for tie in disc.round_of(place):
                        end = next(end for end in disc.ends_of(tie) if end != place)
                        if isinstance(end, str) or end in used:
                            near.add(end)
                if len(places) + len(some) > len(near):
                    found.add((places, some))
    return found


def subsets(items):
    return [some for size in range(len(items) + 1) for some in itertools.combinations(items, size)]


def lacks_told(rim, black, white):
    """All lacks, by the words of [4.3]."""
    found = set()
    for rounds, others in ((black, white), (white, black)):
        for places in subsets(sorted(rounds)):
            ties = [tie for place in places for tie in rounds[place]]
            near = {other for other in others if any(tie in others[other] for tie in ties)}
            if len(places) > len(near) + len(set(ties) & set(rim)):
                found.add(places)
    return found


def chains(*counts):
    """A disc with so many pairings at each rim place, which have nothing to do with one another."""
    names = iter(f"{one}{other}" for one in "abcdefgh" for other in "abcdefghijklmnopqrstuvwxyz")
    rim, black, white = [], {}, {}
    for index, count in enumerate(counts):
        ties = [next(names) for _ in range(count)]
        rim.append(next(names))
        black["b" + "abcdefgh"[index]] = (*ties, rim[-1])
        white["w" + "abcdefgh"[index]] = (ties[0], *reversed(ties[1:]))
    return Disc(tuple(rim), black, white)


class Examples(unittest.TestCase):
    def test_pairings(self):
        self.assertEqual(list(each_pairing(SQUARE)), [("e", "g"), ("e", "r", "s"), ("f", "h"), ("f", "p", "s"), ("g", "p", "q"),
                                                      ("h", "q", "r"), ("p", "q", "r", "s")])

    def test_sets(self):
        told = [set_of_pairing(SQUARE, ("e", "g")), set_of_pairing(SQUARE, ("e", "r", "s")), let_sets(SQUARE),
                count_pairings(DOUBLE), let_sets(DOUBLE)]
        self.assertEqual(told, [(2, 4), (2, 3), ((1, 2), (1, 3), (1, 4), (2, 3), (2, 4), (3, 4)), 3, ((1,), (2,))])

    def test_judges(self):
        told = [is_pairing(STAR, ("q",)), is_pairing(STAR, ("p", "q")), pairing_with(SQUARE, (1, 4)),
                pairing_with(SQUARE, (1,)), is_let(BLACK, (1, 3)), is_let(BLACK, [1, 3])]
        self.assertEqual(told, [True, False, ("g", "p", "q"), None, True, False])

    def test_bars(self):
        told = [let_sets(SOME), bar_of(SOME, (1,)), is_bar(SOME, (3,), (("b",), ())), is_bar(SOME, (1, 2), ((), (1, 2))),
                is_bar(SOME, (1, 2), (("w",), ())), is_bar(SOME, (1, 2), (("b",), (1, 2)))]
        self.assertEqual(told, [((1,), (2,)), None, True, True, False, True])

    def test_lacks(self):
        told = [lack_in(*NO_DISC), lack_in(SQUARE.rim, SQUARE.black, SQUARE.white), is_lack(*NO_DISC, ("x",))]
        self.assertEqual(told, [("y", "z"), None, False])


class Pairings(unittest.TestCase):
    def test_they_come_ascending_and_each_once(self):
        sizes = set()
        for disc in MANY:
            found = list(each_pairing(disc))
            self.assertEqual(found, all_pairings(disc), disc.lines)
            self.assertEqual(count_pairings(disc), len(found))
            sizes.add(len(found))
        self.assertTrue({1, 2, 3, 10} <= sizes)

    def test_one_alone(self):
        self.assertEqual(list(each_pairing(HUNG)), [("e", "g", "q")])
        self.assertEqual(list(each_pairing(Disc.from_lines("rim p", "black b p"))), [("p",)])

    def test_they_come_one_by_one_however_many_there_are(self):
        self.assertTrue(inspect.isgeneratorfunction(each_pairing))
        disc = chains(8, 8, 8, 7, 6, 6, 5)
        found = list(itertools.islice(each_pairing(disc), 50))
        self.assertEqual(found, sorted(set(found)))
        first = tuple(sorted(disc.round_of(place)[0] for place in disc.black))
        self.assertEqual(found[0], first)
        self.assertTrue(all(is_pairing(disc, pairing) for pairing in found))
        large = grid(5, 6, [0, 2, 5, 8, 10, 13, 16, 19])
        self.assertEqual(len(list(itertools.islice(each_pairing(large), 200))), 200)

    def test_count_at_the_limit(self):
        self.assertEqual(count_pairings(chains(5, 5, 5, 5, 8)), 5000)
        self.assertEqual(count_pairings(chains(50, 1)), 50)
        for disc in (chains(5, 7, 11, 13), chains(8, 8, 8, 7, 6, 6, 5), grid(5, 6, [0, 2, 5, 8, 10, 13, 16, 19])):
            check_refused(self, TooMany, None, count_pairings, disc)
        with self.assertRaises(TooMany) as caught:
            count_pairings(chains(3, 3, 3, 3, 3, 3, 7))
        self.assertEqual(caught.exception.limit, 5000)

    def test_counts_of_large_discs(self):
        self.assertEqual(count_pairings(grid(4, 4, [0, 2, 4, 6, 8, 10, 12, 14])), 391)
        self.assertEqual(len(list(each_pairing(grid(4, 4, [0, 2, 4, 6, 8, 10, 12, 14])))), 391)
        self.assertEqual(count_pairings(grid(4, 5, [0, 2, 4, 6, 8, 10, 12, 14])), 874)
        self.assertEqual(count_pairings(Disc(*common_ties(59))), 59)

    def test_judged(self):
        for disc in (SQUARE, STAR, DOUBLE, HUNG, *MANY[-12:]):
            others = [some for size in range(len(disc) + 1) for some in itertools.combinations(disc.ties, size)][:3000]
            check_judge(self, lambda value, disc=disc: is_pairing(disc, value), all_pairings(disc), others)

    def test_a_place_has_not_the_name_of_its_tie(self):
        disc = Disc(("w", "b"), {"b": ("w", "x")}, {"w": ("b", "x")})
        self.assertEqual([some for some in (("b",), ("w",), ("x",), ("b", "w"), ("b", "w", "x")) if is_pairing(disc, some)],
                         [("x",), ("b", "w")])

    def test_sets(self):
        for disc in MANY:
            for pairing in all_pairings(disc):
                self.assertEqual(set_of_pairing(disc, pairing), set_told(disc, pairing))
                self.assertEqual(len(set_of_pairing(disc, pairing)), disc.level)


class LetSets(unittest.TestCase):
    def test_all(self):
        for disc in MANY:
            told = {set_told(disc, pairing) for pairing in all_pairings(disc)}
            self.assertEqual(let_sets(disc), tuple(sorted(told)))
            for chosen in rim_tuples(disc.many):
                self.assertIs(is_let(disc, chosen), chosen in told)

    def test_levels_at_the_ends(self):
        self.assertEqual(let_sets(Disc.from_lines("rim a b", "black x a", "black y b")), ((),))
        self.assertEqual(let_sets(Disc.from_lines("rim a b", "white x a", "white y b")), ((1, 2),))

    def test_judged(self):
        for disc in (SQUARE, STAR, BLACK, LINE, *MANY[-10:]):
            check_judge(self, lambda value, disc=disc: is_let(disc, value), let_sets(disc), rim_tuples(disc.many + 1))

    def test_a_pairing_with_each(self):
        for disc in MANY:
            let = let_sets(disc)
            for chosen in rim_tuples(disc.many):
                pairing = pairing_with(disc, chosen)
                self.assertEqual(pairing is not None, chosen in let)
                if pairing is not None:
                    self.assertIs(is_pairing(disc, pairing), True)
                    self.assertEqual(set_of_pairing(disc, pairing), chosen)

    def test_large_discs(self):
        disc = grid(5, 6, [0, 2, 5, 8, 10, 13, 16, 19])
        self.assertEqual(len(let_sets(disc)), 62)
        for chosen in let_sets(disc):
            self.assertEqual(set_of_pairing(disc, pairing_with(disc, chosen)), chosen)


class Bars(unittest.TestCase):
    def test_there_is_either_a_pairing_or_a_bar(self):
        of_rims = 0
        for disc in MANY:
            for chosen in rim_tuples(disc.many):
                bar = bar_of(disc, chosen)
                self.assertEqual(bar is None, is_let(disc, chosen))
                if bar is not None:
                    self.assertIs(is_bar(disc, chosen, bar), True)
                    of_rims += len(bar[0]) == 0
        self.assertGreater(of_rims, 20)

    def test_judged(self):
        for disc in (SQUARE, STAR, BLACK, SOME, DOUBLE, HUNG, *MANY[-8:]):
            if len(disc.places) > 6:
                continue
            for chosen in rim_tuples(disc.many)[::3]:
                told = bars_told(disc, chosen)
                self.assertEqual(len(told) > 0, not is_let(disc, chosen))
                for value in itertools.product(subsets(disc.places), subsets(range(1, disc.many + 1))):
                    self.assertIs(is_bar(disc, chosen, value), value in told, (disc.lines, chosen, value))

    def test_near_bars(self):
        for disc, chosen in ((SOME, (1, 2)), (SOME, (3,)), (SQUARE, (1,)), (STAR, ()), (HUNG, (1,))):
            right = bars_told(disc, chosen)
            others = [*wrong_values(), ((), ()), (("b",),), ((), (), ()), ((), (1, 1)), (("b", "b"), ()), ((1,), ("b",))]
            check_judge(self, lambda value: is_bar(disc, chosen, value), sorted(right, key=repr), others)

    def test_none_of_a_let_set(self):
        for disc in MANY[:40]:
            for chosen in let_sets(disc):
                self.assertIs(is_bar(disc, chosen, ((), ())), False)
                self.assertIs(is_bar(disc, chosen, (disc.places, ())), False)


class Lacks(unittest.TestCase):
    def webs(self):
        """Webs that are drawn, with a pairing or without one: those of many discs without some ties."""
        yield NO_DISC
        yield NO_DISC[0], {"y": ("b",), "z": ("c",)}, {"x": ("a", "b", "c")}
        for disc in discs_by_chance(60, 10):
            for place in disc.places:
                rounds = {"black": disc.black, "white": disc.white}
                own = rounds[disc.colour(place)]
                other = rounds["white" if disc.colour(place) == "black" else "black"]
                own[place] = (*own[place], "zz")
                other["new"] = ("zz",)
                yield disc.rim, rounds["black"], rounds["white"]

    def test_there_is_one_just_without_a_pairing(self):
        found = {True: 0, False: 0}
        for web in self.webs():
            told = lacks_told(*web)
            lack = lack_in(*web)
            found[lack is None] += 1
            if lack is None:
                self.assertEqual(told, set())
                Disc(*web)
            else:
                self.assertIn(lack, told)
                with self.assertRaises(InvalidDisc):
                    Disc(*web)
            for value in subsets(sorted({**web[1], **web[2]})):
                self.assertIs(is_lack(*web, value), value in told, (web, value))
        self.assertGreater(min(found.values()), 10)

    def test_judged(self):
        for web in (NO_DISC, (NO_DISC[0], NO_DISC[2], NO_DISC[1])):
            self.assertIs(is_lack(*web, ()), False)
            others = [("z", "y"), ("y", "y", "z"), ("x", "y", "z"), ("y", "z", "a"), ("y", "y"), ["y", "z"]]
            check_judge(self, lambda value: is_lack(*web, value), [("y", "z")], others)

    def test_of_discs(self):
        for disc in MANY:
            self.assertIsNone(lack_in(disc.rim, disc.black, disc.white))
            self.assertIs(is_lack(disc.rim, disc.black, disc.white, disc.places), False)

    def test_of_what_breaks_another_rule(self):
        turned = {"x": ("a", "c"), "u": ("c",)}, {"y": ("b",)}
        for web in ((("a", "b"), *turned), (("a",), {}, {}), (("a", "a"), {"x": ("a",)}, {}), ((), {}, {}),
                    (("a", "b", "c"), {"x": ("a", "c", "b")}, {}), (("a",), {"x": ("a",), "y": ("b",)}, {"z": ("b",)}),
                    common_ties(60), (NO_DISC[0], {"x": ("b", "c", "a")}, NO_DISC[2])):
            check_refused(self, InvalidDisc, None, lack_in, *web)
            check_refused(self, InvalidDisc, None, is_lack, *web, ("y", "z"))

    def test_wrong_values(self):
        for at in range(3):
            for value in (*wrong_values(), {"y": 1}):
                web = (*NO_DISC[:at], value, *NO_DISC[at + 1:])
                check_refused(self, InvalidDisc, None, lack_in, *web)
                check_refused(self, InvalidDisc, None, is_lack, *web, ("y", "z"))

    def test_passed_dicts_stay_as_they_are(self):
        black, white = {"x": ("a", "b", "c")}, {"z": ("c",), "y": ("b",)}
        lack_in(("a",), black, white)
        is_lack(("a",), black, white, ("y", "z"))
        self.assertEqual((list(black.items()), list(white.items())), ([("x", ("a", "b", "c"))], [("z", ("c",)), ("y", ("b",))]))


class WrongArguments(unittest.TestCase):
    def test_of_each_function(self):
        for function in (each_pairing, count_pairings, let_sets):
            check_arguments(self, function, (SQUARE,), [no_discs()])
        for function in (is_pairing, is_let):
            check_arguments(self, function, (SQUARE, None), [no_discs()])
        no_pairings = not_one_of((), InvalidPairing)
        no_pairings[1].extend([("p",), ("g", "e"), ["e", "g"], ("e", "g", "g"), ("e", "g", "p"), ("e", "x")])
        check_arguments(self, set_of_pairing, (SQUARE, ("e", "g")), [no_discs(), no_pairings])
        no_sets = not_one_of([(), (2, 4), (1, 2, 3)], InvalidSet)
        no_sets[1].extend([(2, 1), (1, 1), (0, 1), (1, 5), (5,), (0,), (True, 2), (1, "a"), [1, 2]])
        for function in (pairing_with, bar_of):
            check_arguments(self, function, (SQUARE, (1, 2)), [no_discs(), no_sets])
        check_arguments(self, is_bar, (SQUARE, (1,), None), [no_discs(), no_sets])

    def test_tuples_of_any_length(self):
        for chosen in ((), (1,), (1, 2, 3), (1, 2, 3, 4)):
            self.assertIsNone(pairing_with(SQUARE, chosen))
            self.assertIs(is_bar(SQUARE, chosen, bar_of(SQUARE, chosen)), True)

    def test_the_functions_are_defined_in_their_module(self):
        for function in (each_pairing, count_pairings, is_pairing, set_of_pairing, let_sets, is_let, pairing_with, bar_of,
                         is_bar, lack_in, is_lack):
            self.assertEqual(function.__module__, pairings.__name__)


if __name__ == "__main__":
    unittest.main()
