"""[11.1] to [11.5]: moves, shortened discs, and discs that are made thin."""

import itertools
import unittest

from rimtrails.base.discs import Disc, are_same
from rimtrails.base.trails import regions_of, trail_ends
from rimtrails.base.webs import from_least
from rimtrails.base.words import nth_name
from rimtrails.build.bridges import bare_disc, bridged, disc_of
from rimtrails.errors import InvalidMove
from rimtrails.order.necklaces import order_of
from rimtrails.order.orders import top_order
from rimtrails.pair.pairings import let_sets
from rimtrails.thin import moves
from rimtrails.thin.faults import can_go, is_thin, left_out
from rimtrails.thin.moves import each_move, is_move, is_short, is_thinning, made_thin, moved, shortened
from tests.many_discs import discs_by_chance, grid, orders_by_chance, renamed_by_chance, thin_by_chance
from tests.refusals import check_arguments, check_judge, check_refused, no_discs, not_one_of
from tests.samples import BLACK, DOUBLE, HUNG, LINE, SQUARE, STAR, wrong_values

TURN = ("square", ("e", "f", "g", "h"))
LOOP = Disc.from_lines("rim p", "white w p e f", "black b e f")
MANY = discs_by_chance(250)
FEW = [*MANY[:50], *[thin_by_chance(order, 1) for many in range(2, 7) for order in orders_by_chance(many, 4)]]
KINDS = ("draw", "pull", "put", "square")


def kinds(disc):
    return {move[0] for move in each_move(disc)}


def other(disc, tie, end):
    """The end of the tie that is not the told one."""
    return next(one for one in disc.ends_of(tie) if one != end)


def draws_told(disc):
    found = []
    for place in disc.places:
        ties = disc.round_of(place)
        if len(ties) == 2:
            ends = [other(disc, tie, place) for tie in ties]
            inner = [end for end in ends if isinstance(end, str)]
            if inner and ends[0] != ends[1] and not any(len(disc.round_of(end)) == 1 for end in inner):
                found.append(("draw", place))
    return found


def squares_told(disc):
    found = []
    for region in regions_of(disc):
        ends = {end for _, end in region}
        inner = [end for end in ends if isinstance(end, str)]
        if len(region) == 4 and len(inner) == 4 and min(len(disc.round_of(end)) for end in inner) > 2:
            found.append(("square", tuple(sorted(tie for tie, _ in region))))
    return found


def moves_told(disc):
    """All moves, by the words of [11.1]."""
    found = draws_told(disc)
    if len(disc) <= 58:
        found += [("pull", place, tie, count) for place in disc.places for tie in disc.round_of(place)
                  for count in range(1, len(disc.round_of(place)))]
    if len(disc) <= 59:
        found += [("put", at) for at in range(1, disc.many + 1) if len(disc.round_of(disc.inner_end(at))) > 1]
    return sorted(found + (squares_told(disc) if len(disc) <= 56 else []), key=lambda move: (KINDS.index(move[0]), move[1:]))


class Told:
    """A disc that is changed by the words of [11.1]."""

    def __init__(self, disc):
        self.disc = disc
        self.rounds = {place: list(disc.round_of(place)) for place in disc.places}
        self.colours = {place: disc.colour(place) for place in disc.places}
        self.names = {"place": list(disc.places), "tie": list(disc.ties)}

    def new(self, kind):
        name = next(name for name in map(nth_name, range(700)) if name not in self.names[kind])
        self.names[kind].append(name)
        return name

    def new_place(self, unlike, ties):
        place = self.new("place")
        self.colours[place] = "white" if self.colours[unlike] == "black" else "black"
        self.rounds[place] = ties
        return place

    def from_behind(self, place, tie):
        """The ties of the place, clockwise from behind this one on, without it."""
        ties = self.rounds[place]
        at = ties.index(tie)
        return ties[at + 1:] + ties[:at]

    def stands_for(self, place, tie, news):
        at = self.rounds[place].index(tie)
        self.rounds[place][at:at + 1] = news

    def draw(self, place):
        first, last = self.rounds.pop(place)
        x, y = other(self.disc, first, place), other(self.disc, last, place)
        if isinstance(x, int):
            self.stands_for(y, last, [first])
        elif isinstance(y, int):
            self.stands_for(x, first, [last])
        else:
            ties = self.from_behind(x, first) + self.from_behind(y, last)
            del self.rounds[max(x, y)]
            self.rounds[min(x, y)] = ties

    def pull(self, place, tie, count):
        ties = [tie, *self.from_behind(place, tie)]
        gone, stay = ties[:count], ties[count:]
        apart = self.new("place")
        self.colours[apart] = self.colours[place]
        near, far = self.new("tie"), self.new("tie")
        self.new_place(place, [near, far])
        self.rounds[place] = [near, *stay]
        self.rounds[apart] = [far, *gone]

    def put(self, index):
        tie, inner = self.disc.rim[index - 1], self.disc.inner_end(index)
        new = self.new("tie")
        self.stands_for(inner, tie, [new])
        self.new_place(inner, [tie, new])

    def square(self, ties):
        walk = next(region for region in regions_of(self.disc) if sorted(tie for tie, _ in region) == list(ties))
        least = min(range(4), key=lambda at: walk[at][1])
        walk = walk[least:] + walk[:least]
        old = [end for _, end in walk]
        new = [self.new_place(place, []) for place in old]
        legs = [self.new("tie") for _ in old]
        between = [self.new("tie") for _ in old]
        for at in range(4):
            came, left = walk[at][0], walk[(at + 1) % 4][0]
            self.rounds[old[at]].remove(left)
            self.stands_for(old[at], came, [legs[at]])
            self.rounds[new[at]] = [legs[at], between[(at + 3) % 4], between[at]]

    def made(self):
        rounds = {place: from_least(tuple(ties)) for place, ties in self.rounds.items()}
        black = {place: ties for place, ties in rounds.items() if self.colours[place] == "black"}
        return Disc(self.disc.rim, black, {place: ties for place, ties in rounds.items() if place not in black})


def moved_told(disc, move):
    told = Told(disc)
    getattr(told, move[0])(*move[1:])
    return told.made()


def grown(disc, ties):
    """The disc with places put in at its first rim place, until it has so many ties."""
    while len(disc) < ties:
        disc = moved(disc, ("put", 1))
    return disc


class Examples(unittest.TestCase):
    def test_squares(self):
        over = moved(SQUARE, TURN)
        self.assertEqual(over.lines, ("rim p q r s", "white a a p", "black b d q", "white c c r", "black d b s", "black e a l i",
                                      "white f b i j", "black g c j k", "white h d k l"))
        self.assertEqual(shortened(over).lines, ("rim p q r s", "black e i p l", "white f i j s", "black g j k r", "white h k l q"))

    def test_pulls_and_puts(self):
        two = moved(SQUARE, ("pull", "a", "h", 2))
        self.assertEqual(two.lines, ("rim p q r s", "white a a e", "black b e q f", "white c f r g", "black d g s h",
                                     "white e b h p", "black f a b"))
        self.assertEqual(moved(two, ("draw", "f")), SQUARE)
        self.assertEqual(moved(SQUARE, ("put", 1)).lines, ("rim p q r s", "white a a e h", "black b e q f", "white c f r g",
                                                           "black d g s h", "black e a p"))

    def test_all_moves_and_short_discs(self):
        told = [len(list(each_move(SQUARE))), next(iter(each_move(SQUARE))), list(each_move(LINE)), is_short(SQUARE),
                is_short(moved(SQUARE, TURN)), is_short(LINE), is_short(DOUBLE)]
        line = [("pull", "b", "p", 1), ("pull", "b", "q", 1), ("put", 1), ("put", 2)]
        self.assertEqual(told, [29, ("pull", "a", "e", 1), line, True, False, True, True])

    def test_thinning(self):
        told = [made_thin(SQUARE), is_thinning(DOUBLE, ("e",)), is_thinning(DOUBLE, ("f",)), is_thinning(DOUBLE, ()),
                is_thinning(DOUBLE, ("e", "f")), is_thinning(DOUBLE, ("p",))]
        self.assertEqual(told, [(), True, True, False, False, False])


class AllMoves(unittest.TestCase):
    def test_each_one_comes_once_and_ascending(self):
        for disc in (*MANY, *FEW):
            found = list(each_move(disc))
            self.assertEqual(found, moves_told(disc), disc.lines)
            self.assertEqual(found, sorted(set(found)))

    def test_where_each_leads(self):
        met = set()
        for disc in FEW:
            for move in each_move(disc):
                self.assertEqual(moved(disc, move), moved_told(disc, move), (disc.lines, move))
                met.add(move[0])
        self.assertEqual(met, set(KINDS))

    def test_what_is_kept(self):
        for disc in FEW:
            kept = let_sets(disc), trail_ends(disc), disc.regions, is_thin(disc), disc.rim
            for move in each_move(disc):
                behind = moved(disc, move)
                self.assertEqual((let_sets(behind), trail_ends(behind), behind.regions, is_thin(behind), behind.rim), kept)

    def test_moves_are_taken_back(self):
        for disc in FEW:
            for move in each_move(disc):
                behind = moved(disc, move)
                if move[0] != "square":
                    back = ("draw",) if move[0] != "draw" else ("pull", "put")
                    near = [other for other in each_move(behind) if other[0] in back]
                    self.assertTrue(any(are_same(moved(behind, other), disc) for other in near), (disc.lines, move))
                else:
                    self.check_square_back(disc, behind)

    def check_square_back(self, disc, behind):
        new = tuple(sorted(tie for tie in behind.ties if tie not in disc.ties))
        back = next(move for move in each_move(behind) if move[0] == "square" and set(move[1]) <= set(new))
        again = moved(behind, back)
        places = [place for place in again.places if place not in disc.places]
        # Between each old place and its newest one stands a place with two ties.
        middle = [place for place in places if len(again.round_of(place)) == 2]
        self.assertEqual(len(middle), 4)
        for place in middle:
            again = moved(again, ("draw", place))
        self.assertTrue(are_same(again, disc))

    def test_next_one_is_found_without_the_others(self):
        self.assertEqual(next(iter(each_move(thin_by_chance(top_order(8, 4), 3, 9))))[0], "draw")

    def test_none_without_places_to_move(self):
        for marks in (("black",), ("white", "black")):
            self.assertEqual(list(each_move(bare_disc(marks))), [])


class Limits(unittest.TestCase):
    def test_of_sixty_ties(self):
        for ties, told in ((55, KINDS), (56, KINDS), (57, KINDS[:3]), (58, KINDS[:3]), (59, ("draw", "put")), (60, ("draw",))):
            disc = grown(SQUARE, ties)
            self.assertEqual(kinds(disc), set(told), ties)
            self.assertIs(is_move(disc, TURN), "square" in told)
            self.assertIs(is_move(disc, ("put", 2)), "put" in told)
            self.assertIs(is_move(disc, ("pull", "c", "f", 1)), "pull" in told)
            for kind, move in (("square", TURN), ("pull", ("pull", "c", "f", 1)), ("put", ("put", 2))):
                if kind in told:
                    self.assertLessEqual(len(moved(disc, move)), 60)
                else:
                    check_refused(self, InvalidMove, None, moved, disc, move)
        self.assertEqual(len(moved(grown(SQUARE, 56), TURN)), 60)
        self.assertEqual(len(moved(grown(SQUARE, 58), ("pull", "c", "f", 1))), 60)
        self.assertEqual(len(moved(grown(SQUARE, 59), ("put", 4))), 60)
        self.assertEqual(len(moved(grown(SQUARE, 60), next(iter(each_move(grown(SQUARE, 60)))))), 58)


class Draws(unittest.TestCase):
    def test_what_is_none(self):
        none = {
            "both ties to the rim": Disc.from_lines("rim p q", "black b p q"),
            "both to one place": Disc.from_lines("rim p", "white w p e f", "black b e f"),
            "to a place with this tie alone": Disc.from_lines("rim p", "black b p e", "white a e"),
            "three ties": STAR, "one tie": bare_disc(("black",)),
        }
        for why, disc in none.items():
            for place in disc.places:
                self.assertIs(is_move(disc, ("draw", place)), False, why)
                check_refused(self, InvalidMove, None, moved, disc, ("draw", place))

    def test_to_the_rim(self):
        told = {
            ("rim p q", "white a p e", "black b e q"): ("rim p q", "black b p q"),
            ("rim p q r", "black b e q f r", "white a p e", "white c f"): ("rim p q r", "black b p q f r", "white c f"),
        }
        for before, behind in told.items():
            self.assertEqual(moved(Disc.from_lines(*before), ("draw", "a")), Disc.from_lines(*behind))

    def test_the_lesser_name_stays(self):
        for x, y in (("c", "d"), ("d", "c")):
            disc = Disc.from_lines("rim p q r s", f"white {x} p q e", "black b e f", f"white {y} r s f")
            self.assertEqual(moved(disc, ("draw", "b")).lines, ("rim p q r s", "white c p q r s"))

    def test_common_ties_of_both(self):
        disc = Disc.from_lines("rim p q", "white a p e g", "black b e f", "white c q h f", "black d g h")
        self.assertEqual(moved(disc, ("draw", "b")).lines, ("rim p q", "white a g p q h", "black d g h"))


class NewNames(unittest.TestCase):
    def test_names_of_what_goes_are_not_free(self):
        # The places c and e stand in for one another, so that the square goes a, e, c, b.
        disc = SQUARE.renamed({"a": "a", "b": "b", "c": "c", "d": "e"}, dict(zip("efghpqrs", "abcdwxyz")))
        over = moved(disc, ("square", ("a", "b", "c", "d")))
        self.assertEqual(over.places, tuple("abcdefgh"))
        self.assertEqual([over.round_of(place) for place in "aecb"], [("e", "w"), ("f", "z"), ("g", "y"), ("h", "x")])
        self.assertEqual([over.round_of(place) for place in "dfgh"],
                         [("e", "l", "i"), ("f", "i", "j"), ("g", "j", "k"), ("h", "k", "l")])

    def test_behind_z_comes_aa(self):
        names = [nth_name(index) for index in range(26)]
        disc = LINE.renamed({"b": "a"}, {"p": "a", "q": "b"})
        for _ in range(24):
            disc = moved(disc, ("put", 1))
        self.assertEqual(disc.ties, tuple(names))
        self.assertEqual(moved(disc, ("put", 2)).ties, tuple(sorted([*names, "aa"])))

    def test_pull(self):
        disc = Disc.from_lines("rim a c e f", "black b a c e f")
        told = {("e", 3): ("black a d e f a", "black b b c"), ("f", 1): ("black a d f", "black b a c e b"),
                ("c", 2): ("black a c e d", "black b a b f")}
        for (tie, count), lines in told.items():
            wanted = Disc.from_lines("rim a c e f", "white c b d", *lines)
            self.assertEqual(moved(disc, ("pull", "b", tie, count)), wanted)

    def test_put(self):
        self.assertEqual(moved(STAR, ("put", 3)).lines, ("rim p q r", "black a a r", "white w a p q"))


class Judged(unittest.TestCase):
    def test_near_moves(self):
        for disc in (SQUARE, DOUBLE, STAR, HUNG, moved(SQUARE, TURN)):
            found = list(each_move(disc))
            check_judge(self, lambda value, disc=disc: is_move(disc, value), found)

    def test_values_of_other_kinds(self):
        for value in (*wrong_values(), (), {}, 0, "draw"):
            for some in ((value,), ("draw", value), ("put", value), ("pull", value), ("square", value), ("pull", "a", "e", value),
                         ("pull", value, "e", 1), ("pull", "a", value, 1), (value, "a"), (value, 1), ("square", (value,) * 4)):
                self.assertIs(is_move(SQUARE, some), False, some)

    def test_true_is_not_one(self):
        self.assertIs(is_move(SQUARE, ("put", 1)), True)
        self.assertIs(is_move(SQUARE, ("put", True)), False)
        self.assertIs(is_move(SQUARE, ("pull", "a", "e", 1)), True)
        self.assertIs(is_move(SQUARE, ("pull", "a", "e", True)), False)

    def test_squares_that_are_none(self):
        for ties in (("e", "f", "h", "g"), ("e", "f", "g"), ["e", "f", "g", "h"], ("e", "f", "g", "p"), ("h", "g", "f", "e")):
            self.assertIs(is_move(SQUARE, ("square", ties)), False)
        told = {
            "touches the rim": ("rim p q", "white a p e f", "black b e q f"),
            "a place with two ties": ("rim p r s", "white a p e h", "black b f e", "white c r g f", "black d s h g"),
            "a place met twice": ("rim p q", "white v h", "white x e g k f p", "black y e q f", "black z g k h"),
        }
        for why, lines in told.items():
            disc = Disc.from_lines(*lines)
            self.assertTrue(why == "touches the rim" or any(len(region) == 4 for region in regions_of(disc)))
            self.assertNotIn("square", kinds(disc), why)
            for ties in itertools.combinations(disc.ties, 4):
                self.assertIs(is_move(disc, ("square", ties)), False, why)


class Short(unittest.TestCase):
    def short_told(self, disc):
        two = [place for place in disc.places if len(disc.round_of(place)) == 2]
        return all(disc.colour(place) == "black" and set(disc.round_of(place)) <= set(disc.rim) for place in two)

    def test_judged(self):
        found = set()
        for disc in (*MANY, *FEW):
            self.assertIs(is_short(disc), self.short_told(disc))
            found.add(is_short(disc))
        self.assertEqual(found, {True, False})

    def test_places_between_two_rim_places(self):
        black = Disc.from_lines("rim p q", "black b p q")
        white = Disc.from_lines("rim p q", "white b p q")
        self.assertEqual([is_short(black), is_short(white), shortened(white), shortened(black)], [True, False, black, black])
        both = Disc.from_lines("rim p q r s", "white a p q", "white c r s")
        self.assertEqual(shortened(both).lines, ("rim p q r s", "black a p q", "black c r s"))

    def shortened_told(self, disc):
        while draws_told(disc):
            disc = moved_told(disc, draws_told(disc)[0])
        whites = [place for place, ties in disc.white.items() if len(ties) == 2 and set(ties) <= set(disc.rim)]
        return Disc(disc.rim, {**disc.black, **{place: disc.white[place] for place in whites}},
                    {place: ties for place, ties in disc.white.items() if place not in whites})

    def test_by_draws_at_the_least_places(self):
        for disc in (*MANY, *FEW):
            self.assertEqual(shortened(disc), self.shortened_told(disc), disc.lines)

    def test_what_is_kept(self):
        for disc in (*MANY, *FEW):
            short = shortened(disc)
            self.assertEqual((let_sets(short), trail_ends(short), short.regions), (let_sets(disc), trail_ends(disc), disc.regions))
            self.assertIs(is_thin(short), is_thin(disc))
            if is_thin(disc):
                self.assertIs(is_short(short), True)

    def test_of_discs_that_are_not_thin(self):
        self.assertEqual([shortened(LOOP), is_short(LOOP)], [LOOP, False])

    def test_same_discs_behind_draws_pulls_and_puts(self):
        for disc in FEW:
            if is_thin(disc):
                self.assertTrue(are_same(shortened(renamed_by_chance(disc, 5)), shortened(disc)))
                for move in each_move(disc):
                    if move[0] != "square":
                        self.assertTrue(are_same(shortened(moved(disc, move)), shortened(disc)))


class Thinning(unittest.TestCase):
    def test_found(self):
        lengths = set()
        for disc in MANY:
            ties = made_thin(disc)
            left = left_out(disc, ties)
            self.assertEqual((is_thin(left), let_sets(left)), (True, let_sets(disc)))
            self.assertIs(is_thinning(disc, ties), True)
            self.assertEqual(ties == (), is_thin(disc))
            lengths.add(len(ties))
        self.assertGreater(len(lengths), 3)

    def test_large_discs(self):
        disc = grid(5, 6, [0, 2, 5, 8, 10, 13, 16, 19])
        self.assertIs(is_thinning(disc, made_thin(disc)), True)

    def thinnings_told(self, disc):
        found = []
        for size in range(len(disc) + 1):
            for ties in itertools.combinations(disc.ties, size):
                try:
                    left = left_out(disc, ties)
                except ValueError:
                    continue
                if let_sets(left) == let_sets(disc) and not any(can_go(left, tie) for tie in left.ties):
                    found.append(ties)
        return found

    def test_judged(self):
        for disc in (DOUBLE, STAR, LINE, HUNG, LOOP, bridged(LINE, 1), *[disc for disc in MANY if len(disc) < 8][:20]):
            check_judge(self, lambda value, disc=disc: is_thinning(disc, value), self.thinnings_told(disc))

    def test_ties_that_go_one_by_one_but_not_together(self):
        self.assertEqual([is_thinning(DOUBLE, ("e",)), is_thinning(DOUBLE, ("f",)), is_thinning(DOUBLE, ("e", "f"))], [True, True, False])

    def test_thin_discs(self):
        for disc in FEW:
            if is_thin(disc):
                self.assertEqual(made_thin(disc), ())
                self.assertIs(is_thinning(disc, ()), True)
                for tie in disc.ties:
                    self.assertIs(is_thinning(disc, (tie,)), False)


class Statements(unittest.TestCase):
    def test_none_of_these_is_true(self):
        # [11.5]
        over = moved(SQUARE, TURN)
        self.assertEqual([is_short(SQUARE), is_short(over)], [True, False])
        sizes = set()
        disc = shortened(disc_of(top_order(6, 3)))
        for move in each_move(disc):
            if move[0] == "square":
                sizes.add(len(shortened(moved(disc, move)).places))
        self.assertGreater(len(sizes | {len(disc.places)}), 1)

    def test_equal_orders(self):
        for disc in FEW:
            self.assertTrue(all(order_of(moved(disc, move)) == order_of(disc) for move in list(each_move(disc))[::7]))


class WrongArguments(unittest.TestCase):
    def test_of_each_function(self):
        for function in (each_move, is_short, shortened, made_thin):
            check_arguments(self, function, (SQUARE,), [no_discs()])
        for function in (is_move, is_thinning):
            check_arguments(self, function, (SQUARE, None), [no_discs()])
        no_moves = not_one_of((), InvalidMove)
        no_moves[1].extend([("draw", "a"), ("draw",), ["put", 1], ("put", 0), ("put", 5), ("put", True), ("pull", "a", "e", 3),
                            ("pull", "a", "e", 0), ("pull", "a", "f", 1), ("pull", "a", "e"), ("square", ("e", "f", "g", "r")),
                            ("Put", 1), ("draw", "nosuch"), ("pull", "nosuch", "e", 1)])
        check_arguments(self, moved, (SQUARE, TURN), [no_discs(), no_moves])

    def test_a_generator_raises_when_it_is_asked(self):
        asked = each_move(None)
        with self.assertRaises(ValueError):
            next(asked)

    def test_the_disc_stays_as_it_was(self):
        lines = SQUARE.lines
        for move in each_move(SQUARE):
            moved(SQUARE, move)
        self.assertEqual((SQUARE.lines, BLACK.lines), (lines, ("rim p q r", "black b p q r")))

    def test_the_functions_are_defined_in_their_module(self):
        for function in (each_move, is_move, moved, is_short, shortened, made_thin, is_thinning):
            self.assertEqual(function.__module__, moves.__name__)


if __name__ == "__main__":
    unittest.main()
