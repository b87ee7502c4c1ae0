"""The names and the parameters of the interface: which ones are passed by keyword alone, and what is a generator."""

import importlib
import inspect
import unittest

FUNCTIONS = {
    "base.words": ["is_integer(value)", "is_count(value)", "is_name(value)", "are_names(value)", "is_naming(names, value)",
                   "nth_name(index)", "is_fraction(value)", "fraction(top, bottom)", "added(one, other)",
                   "multiplied(one, other)", "divided(one, other)"],
    "base.discs": ["are_same(one, other)"],
    "base.trails": ["trail(disc, index)", "trail_ends(disc)", "trail_with(disc, tie, end)", "round_trails(disc)",
                    "regions_of(disc)", "region_at(disc, index)", "region_beside(disc, tie, end)", "regions_across(disc, tie)"],
    "pair.pairings": ["each_pairing(disc)", "count_pairings(disc)", "is_pairing(disc, value)", "set_of_pairing(disc, pairing)",
                      "let_sets(disc)", "is_let(disc, value)", "pairing_with(disc, chosen)", "bar_of(disc, chosen)",
                      "is_bar(disc, chosen, value)", "lack_in(rim, black, white)", "is_lack(rim, black, white, value)"],
    "pair.leanings": ["leaning_of(disc, pairing)", "pairing_by(disc, leaning)", "is_leaning(disc, value)",
                      "sources(disc, leaning)", "ways_between(disc, leaning, pairing)", "pairing_behind(disc, leaning, ways)",
                      "is_family(disc, leaning, value)"],
    "order.orders": ["each_knot(order)", "each_order(many, *, level=None)", "count_orders(many, *, level=None)",
                     "top_order(many, level)"],
    "order.necklaces": ["necklace_of(order)", "is_necklace(many, value)", "order_of_necklace(necklace)", "sets_of(order)",
                        "is_set_of(order, value)", "barred_at(order, places)", "order_of_sets(many, sets)", "order_of(disc)"],
    "order.diagrams": ["is_diagram(many, rows, value)", "order_of_diagram(diagram)", "diagram_of(order)",
                       "each_diagram(many, level)", "disc_of_diagram(diagram)"],
    "build.bridges": ["bare_disc(marks)", "with_rim_place(disc, index, colour)", "bridged(disc, index, *, ends=False)",
                      "is_steps(value)", "order_by(steps)", "disc_by(steps)", "steps_of(order)", "disc_of(order)"],
    "thin.faults": ["left_out(disc, ties)", "can_go(disc, tie)", "is_thin(disc)", "fault_of(disc)", "is_fault(disc, value)",
                    "needed_sets(disc)", "is_needed_sets(disc, value)"],
    "thin.moves": ["each_move(disc)", "is_move(disc, value)", "moved(disc, move)", "is_short(disc)", "shortened(disc)",
                   "made_thin(disc)", "is_thinning(disc, value)"],
    "label.labels": ["is_left_of(disc, index, value)", "labels_of(disc)", "do_cross(many, one, other)", "crossing_in(sets)",
                     "collection_of(disc)", "is_collection(order, value)", "exchanges(order, collection)",
                     "exchanged(order, collection, places)", "each_collection(order)", "disc_of_collection(order, collection)"],
    "label.ways": ["are_moved(one, other)", "way_between(one, other)", "is_way(one, other, value)", "set_apart(one, other)",
                   "each_short(order)", "distance(one, other)"],
    "point.points": ["told_numbers(disc, numbers)", "point_of(disc, numbers)", "is_point(order, value)",
                     "failing_relation(order, point)", "rescaled(disc, numbers, place, factor)",
                     "rescaling_between(disc, one, other)", "region_numbers(disc, numbers)", "moved_numbers(disc, numbers, move)"],
    "point.matrices": ["is_matrix(value)", "minors(matrix)", "is_told(matrix)", "negative_set(matrix)", "order_of_matrix(matrix)",
                       "rank_between(matrix, first, last)", "with_zeros(matrix, index)", "with_new_row(matrix, index)",
                       "with_bridge(matrix, index, number)", "turned_matrix(matrix)", "point_of_matrix(matrix)",
                       "matrix_of_point(order, point)", "numbers_of(steps, point)", "numbers_back(disc, point)"],
    "part.borders": ["is_below(one, other)", "set_against(one, other)", "covers_below(order)", "covers_above(order)",
                     "way_down(one, other)", "orders_between(one, other)", "ties_for(disc, order)", "is_ties_for(disc, order, value)"],
    "part.parts": ["parts_of(order)", "is_parting(order, value)", "part_order(order, places)", "joined_orders(many, parts)",
                   "dual_disc(disc)", "mirrored_disc(disc)", "turned_disc(disc, by)", "laid(disc, one, other)",
                   "switched(disc, one, other, what)", "three_terms(disc, base, four)"],
    "use.bench": ["is_pledge(value)"],
}
METHODS = {
    "base.discs.Disc": ["__init__(self, rim, black, white)", "colour(self, place)", "round_of(self, place)",
                        "ends_of(self, tie)", "inner_end(self, index)", "renamed(self, places, ties)"],
    "order.orders.Order": ["__init__(self, numbers)", "turned(self, by)", "starts_exchanged(self, index)",
                           "ends_exchanged(self, index)", "__call__(self, number)"],
    "order.diagrams.Diagram": ["__init__(self, many, rows, full)"],
    "use.bench.Bench": ["__init__(self, disc)", "move(self, move)", "bridge(self, index, *, ends=False, number=1)",
                        "put_in(self, index, colour)", "leave_out(self, ties)", "put_number(self, tie, number)",
                        "rescale(self, place, factor)", "rename(self, places, ties)", "demand(self, pledge)", "waive(self, pledge)",
                        "undo(self, *, many=1)", "redo(self, *, many=1)", "trial(self)", "during(self, call)", "twin(self)"],
}
PROPERTIES = {
    "base.discs.Disc": ["rim", "black", "white", "places", "ties", "many", "level", "regions", "lines", "named_anew"],
    "order.orders.Order": ["numbers", "many", "level", "knots", "size", "ends", "marks", "falling", "dual", "mirrored"],
    "order.diagrams.Diagram": ["many", "rows", "full", "columns", "boxes", "level", "lines"],
    "use.bench.Bench": ["disc", "numbers", "order", "point", "lines", "pledges", "changes"],
}
MADE_BY = {
    "base.discs.Disc": "from_lines(cls, *lines)",
    "order.orders.Order": "of_ends(cls, ends, marks)",
    "order.diagrams.Diagram": "from_lines(cls, many, rows, *lines)",
}
CONSTANTS = {
    "base.words": {"MAX_LETTERS": 8, "MAX_FIGURES": 60}, "base.discs": {"MAX_RIM": 8, "MAX_TIES": 60},
    "label.labels": {"MAX_COLLECTIONS": 1000}, "label.ways": {"MAX_SHORT": 1000},
    "use.bench": {"MAX_PLEDGES": 10},
}
GENERATORS = {"each_pairing", "each_knot", "each_order", "each_diagram", "each_move", "each_collection", "each_short"}


def told(name):
    module, _, rest = name.rpartition(".")
    return getattr(importlib.import_module("rimtrails." + module), rest)


class Interface(unittest.TestCase):
    def check(self, function, text):
        self.assertEqual(function.__name__ + str(inspect.signature(function)), text)

    def test_functions(self):
        for module, texts in FUNCTIONS.items():
            for text in texts:
                name = text.partition("(")[0]
                function = told(f"{module}.{name}")
                self.check(function, text)
                self.assertEqual(function.__module__, "rimtrails." + module)
                self.assertIs(inspect.isgeneratorfunction(function), name in GENERATORS)

    def test_classes(self):
        for name, texts in METHODS.items():
            own = vars(told(name))
            for text in texts:
                self.check(own[text.partition("(")[0]], text)
            self.assertEqual(told(name).__module__, "rimtrails." + name.rpartition(".")[0])

    def test_class_methods(self):
        for name, text in MADE_BY.items():
            made = vars(told(name))[text.partition("(")[0]]
            self.assertIs(type(made), classmethod)
            self.check(made.__func__, text)

    def test_properties(self):
        for name, properties in PROPERTIES.items():
            for one in properties:
                self.assertIsInstance(vars(told(name))[one], property)

    def test_constants(self):
        for module, numbers in CONSTANTS.items():
            for name, number in numbers.items():
                self.assertEqual(told(f"{module}.{name}"), number)


if __name__ == "__main__":
    unittest.main()
