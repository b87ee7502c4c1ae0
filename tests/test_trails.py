"""[3.1] to [3.4]: trails, round trails and regions."""

import unittest

from rimtrails.base import trails
from rimtrails.base.discs import Disc
from rimtrails.base.trails import (region_at, region_beside, regions_across, regions_of, round_trails, trail,
                                   trail_ends, trail_with)
from rimtrails.errors import InvalidOperation
from tests.many_discs import discs_by_chance, grid
from tests.refusals import check_arguments, check_refused, no_discs, no_numbers, no_ties, not_one_of
from tests.samples import BLACK, DOUBLE, HUNG, LINE, SQUARE, STAR, wrong_values

# A round trail on each side of a ring of two ties, and one rim place.
LOOP = Disc.from_lines("rim p", "white w p e f", "black b e f")
FOUR = Disc.from_lines("rim p q", "black b p e f g h", "white a q h g f e")
TWICE = Disc.from_lines("rim p q r", "black a q r g d", "white b d g f e", "black c e f", "white d p")
EIGHT = Disc.from_lines("rim a b c d e f g h", "white w a b c d e f g h")
MANY = discs_by_chance(300)


def steps_of(disc):
    return {(tie, end) for tie in disc.ties for end in disc.ends_of(tie)}


def away(disc, step):
    """The end from which the step comes."""
    return next(end for end in disc.ends_of(step[0]) if end != step[1])


def is_less(one, other):
    """[3.1], told once more."""
    ends = [isinstance(step[1], int) for step in (one, other)]
    if all(ends):
        return one[1] < other[1]
    return ends[0] if any(ends) else one < other


def begins_with_least(steps):
    return all(is_less(steps[0], step) for step in steps[1:])


def seat_after(disc, step, by):
    ties = disc.round_of(step[1])
    return ties[(ties.index(step[0]) + by) % len(ties)]


class Examples(unittest.TestCase):
    def test_trails(self):
        told = [trail(STAR, 1), trail_ends(STAR), trail_ends(BLACK), trail_ends(SQUARE), trail_ends(LINE),
                trail_ends(DOUBLE)]
        self.assertEqual(told, [(("p", "w"), ("q", 2)), (2, 3, 1), (3, 1, 2), (3, 4, 1, 2), (2, 1), (1, 2)])

    def test_trails_with_steps(self):
        told = [trail(SQUARE, 1), trail_with(SQUARE, "e", "a"), round_trails(SQUARE), trail(DOUBLE, 1)]
        self.assertEqual(told, [(("p", "a"), ("e", "b"), ("f", "c"), ("r", 3)),
                                (("q", "b"), ("e", "a"), ("h", "d"), ("s", 4)), (),
                                (("p", "b"), ("f", "a"), ("e", "b"), ("p", 1))])

    def test_regions(self):
        told = [len(regions_of(SQUARE)), region_at(STAR, 2), region_beside(SQUARE, "e", "a"), region_at(DOUBLE, 1),
                region_beside(DOUBLE, "e", "a")]
        self.assertEqual(told, [5, (("q", 2), ("p", "w")), (("e", "a"), ("h", "d"), ("g", "c"), ("f", "b")),
                                (("p", 1), ("q", "a"), ("f", "b")), (("q", 2), ("p", "b"), ("e", "a"))])

    def test_regions_across(self):
        told = [regions_across(DOUBLE, "e") == (region_beside(DOUBLE, "e", "b"), region_beside(DOUBLE, "e", "a")),
                region_beside(DOUBLE, "e", "b"), regions_across(STAR, "p")]
        self.assertEqual(told, [True, (("e", "b"), ("f", "a")), ((("p", 1), ("r", "w")), (("q", 2), ("p", "w")))])


class Trails(unittest.TestCase):
    def test_one_rim_place(self):
        self.assertEqual(trail(LOOP, 1), (("p", "w"), ("e", "b"), ("f", "w"), ("p", 1)))
        self.assertEqual(trail(Disc.from_lines("rim p", "black b p"), 1), (("p", "b"), ("p", 1)))

    def test_eight_rim_places(self):
        self.assertEqual(trail_ends(EIGHT), (2, 3, 4, 5, 6, 7, 8, 1))
        self.assertEqual(trail(EIGHT, 8), (("h", "w"), ("a", 1)))

    def test_many_common_ties(self):
        self.assertEqual(trail(FOUR, 1), (("p", "b"), ("h", "a"), ("g", "b"), ("f", "a"), ("e", "b"), ("p", 1)))
        self.assertEqual(trail_ends(FOUR), (1, 2))

    def test_places_that_hang_on_by_one_tie(self):
        self.assertEqual(trail(HUNG, 1), (("p", "b"), ("f", "a"), ("g", "d"), ("g", "a"), ("f", "b"), ("e", "c"),
                                          ("e", "b"), ("p", 1)))
        self.assertEqual(trail(HUNG, 2), (("q", "y"), ("q", 2)))

    def test_each_begins_along_its_tie_and_goes_on_by_the_rule(self):
        for disc in MANY:
            for index in range(1, disc.many + 1):
                steps = trail(disc, index)
                self.assertEqual(steps[0], (disc.rim[index - 1], disc.inner_end(index)))
                for one, other in zip(steps, steps[1:]):
                    self.assertEqual(away(disc, other), one[1])
                    by = 1 if disc.colour(one[1]) == "white" else -1
                    self.assertEqual(other[0], seat_after(disc, one, by))
                self.assertEqual(disc.rim[steps[-1][1] - 1], steps[-1][0])
                self.assertIs(type(steps[-1][1]), int)

    def test_one_ends_at_each_rim_place(self):
        for disc in MANY:
            ends = trail_ends(disc)
            self.assertEqual(ends, tuple(trail(disc, at + 1)[-1][1] for at in range(disc.many)))
            self.assertEqual(sorted(ends), list(range(1, disc.many + 1)))


class RoundTrails(unittest.TestCase):
    def test_they_are_told_from_their_least_steps_on(self):
        self.assertEqual(round_trails(LOOP), ((("e", "w"), ("f", "b")),))
        self.assertEqual(round_trails(TWICE), ((("d", "a"), ("g", "b"), ("f", "c"), ("e", "b")), (("e", "c"), ("f", "b"))))
        self.assertEqual(round_trails(FOUR), ())

    def test_there_are_some_and_they_ascend(self):
        several = 0
        for disc in MANY:
            rounds = round_trails(disc)
            several += len(rounds) > 1
            self.assertIs(type(rounds), tuple)
            self.assertEqual(list(rounds), sorted(rounds))
            for steps in rounds:
                self.assertTrue(begins_with_least(steps))
                for one, other in zip(steps, steps[1:] + steps[:1]):
                    by = 1 if disc.colour(one[1]) == "white" else -1
                    self.assertEqual((other[0], away(disc, other)), (seat_after(disc, one, by), one[1]))
        self.assertGreater(several, 2)

    def test_each_step_is_in_just_one_trail_or_round_trail(self):
        for disc in MANY:
            walks = [trail(disc, at + 1) for at in range(disc.many)] + list(round_trails(disc))
            steps = [step for walk in walks for step in walk]
            self.assertEqual(sorted(steps, key=repr), sorted(steps_of(disc), key=repr))

    def test_the_one_with_a_step(self):
        for disc in MANY[::5]:
            walks = [trail(disc, at + 1) for at in range(disc.many)] + list(round_trails(disc))
            for tie, end in steps_of(disc):
                self.assertEqual([trail_with(disc, tie, end)], [walk for walk in walks if (tie, end) in walk])
        self.assertEqual(trail_with(LOOP, "f", "b"), (("e", "w"), ("f", "b")))
        self.assertEqual(trail_with(LOOP, "p", 1), trail(LOOP, 1))


class Regions(unittest.TestCase):
    def test_each_is_told_from_its_least_step_on(self):
        self.assertEqual(regions_of(LINE), ((("p", 1), ("q", "b")), (("q", 2), ("p", "b"))))
        self.assertEqual(regions_of(HUNG), ((("p", 1), ("q", "y"), ("q", 2), ("p", "b"), ("e", "c"), ("e", "b"), ("f", "a"),
                                             ("g", "d"), ("g", "a"), ("f", "b")),))
        for disc in MANY:
            for region in regions_of(disc):
                self.assertTrue(begins_with_least(region))

    def test_one_rim_place(self):
        self.assertEqual(regions_of(LOOP), ((("p", 1), ("p", "w"), ("e", "b"), ("f", "w")), (("e", "w"), ("f", "b"))))
        self.assertEqual(regions_of(Disc.from_lines("rim p", "black b p")), ((("p", 1), ("p", "b")),))

    def test_eight_rim_places(self):
        ties = "abcdefgh"
        self.assertEqual(regions_of(EIGHT), tuple(((ties[at], at + 1), (ties[at - 1], "w")) for at in range(8)))

    def test_they_ascend_and_are_as_many_as_the_disc_tells(self):
        for disc in MANY:
            regions = regions_of(disc)
            self.assertIs(type(regions), tuple)
            self.assertEqual(len(regions), disc.regions)
            for one, other in zip(regions, regions[1:]):
                self.assertTrue(is_less(one[0], other[0]))

    def test_each_step_is_in_just_one_and_goes_on_by_the_rule(self):
        for disc in MANY:
            steps = [step for region in regions_of(disc) for step in region]
            self.assertEqual(sorted(steps, key=repr), sorted(steps_of(disc), key=repr))
            for region in regions_of(disc):
                for one, other in zip(region, region[1:] + region[:1]):
                    if isinstance(one[1], int):
                        self.assertEqual(other[0], disc.rim[one[1] - 2])
                    else:
                        self.assertEqual((other[0], away(disc, other)), (seat_after(disc, one, 1), one[1]))

    def test_at_the_rim(self):
        for disc in MANY:
            for index in range(1, disc.many + 1):
                region = region_at(disc, index)
                self.assertEqual([region], [some for some in regions_of(disc) if (disc.rim[index - 1], index) in some])
                before = (disc.rim[index - 2], disc.inner_end((index - 2) % disc.many + 1))
                self.assertIn(before, region)

    def test_one_that_touches_the_rim_at_several_places(self):
        apart = Disc.from_lines("rim a b c d", "white w a c", "black b b", "black d d")
        self.assertEqual(region_at(apart, 2), region_at(apart, 3))
        self.assertEqual(region_at(apart, 1), region_at(apart, 4))
        self.assertNotEqual(region_at(apart, 1), region_at(apart, 2))
        self.assertEqual(region_at(apart, 1), (("a", 1), ("d", "d"), ("d", 4), ("c", "w")))

    def test_beside_and_across(self):
        for disc in MANY[::5]:
            for tie in disc.ties:
                both = regions_across(disc, tie)
                self.assertIs(type(both), tuple)
                self.assertEqual(both, tuple(region_beside(disc, tie, end) for end in disc.ends_of(tie)))
                for end, region in zip(disc.ends_of(tie), both):
                    self.assertIn((tie, end), region)
                    self.assertIn(region, regions_of(disc))

    def test_a_tie_with_one_region_on_both_sides(self):
        self.assertEqual(regions_across(HUNG, "e"), regions_of(HUNG) * 2)
        self.assertEqual(regions_across(HUNG, "q"), regions_of(HUNG) * 2)


class Facts(unittest.TestCase):
    def test_the_tie_of_a_rim_place_is_walked_by_both_of_its_trails(self):
        for disc in MANY:
            for index, end in enumerate(trail_ends(disc), 1):
                self.assertEqual(trail(disc, end)[0][0], trail(disc, index)[-1][0])

    def test_a_place_is_passed_as_often_as_it_has_ties(self):
        for disc in MANY:
            walks = [trail(disc, at + 1) for at in range(disc.many)] + list(round_trails(disc))
            for place in disc.places:
                passed = [step for walk in walks for step in walk if step[1] == place]
                self.assertEqual(len(passed), len(disc.round_of(place)))

    def test_large_discs(self):
        disc = grid(5, 6, [0, 2, 5, 8, 10, 13, 16, 19])
        self.assertEqual((len(disc), len(regions_of(disc))), (57, 28))
        self.assertEqual(sum(map(len, regions_of(disc))), 114)
        walks = [trail(disc, at + 1) for at in range(8)]
        self.assertEqual(sum(map(len, walks + list(round_trails(disc)))), 114)


class WrongArguments(unittest.TestCase):
    def test_of_each_function(self):
        for function in (trail_ends, round_trails, regions_of):
            check_arguments(self, function, (SQUARE,), [no_discs()])
        for function in (trail, region_at):
            check_arguments(self, function, (SQUARE, 1), [no_discs(), no_numbers(1, 4)])
        for function in (trail_with, region_beside):
            ends = not_one_of(("a",))
            check_arguments(self, function, (SQUARE, "e", "b"), [no_discs(), no_ties(SQUARE), ends])
        check_arguments(self, regions_across, (SQUARE, "e"), [no_discs(), no_ties(SQUARE)])

    def test_of_ends(self):
        for function in (trail_with, region_beside):
            for value in (*wrong_values(), "p", "c", 2, 3, 4, 0, (1,), (1, "a"), ("p", 1)):
                check_refused(self, InvalidOperation, value, function, SQUARE, "p", value)
            for value in (1, "c", "p", "e", (), {}):
                check_refused(self, InvalidOperation, value, function, SQUARE, "e", value)

    def test_of_one_rim_place(self):
        check_arguments(self, trail, (LOOP, 1), [no_discs(), no_numbers(1, 1)])

    def test_the_functions_are_defined_in_their_module(self):
        for function in (trail, trail_ends, trail_with, round_trails, regions_of, region_at, region_beside, regions_across):
            self.assertEqual(function.__module__, trails.__name__)


if __name__ == "__main__":
    unittest.main()
