"""The names and the parameters of the interface: which ones are passed by keyword alone, and what is a generator."""

import importlib
import inspect
import unittest

FUNCTIONS = {
    "base.words": ["is_integer(value)", "is_count(value)", "is_name(value)", "are_names(value)", "is_naming(names, value)",
                   "nth_name(index)", "is_fraction(value)", "fraction(top, bottom)", "added(one, other)",
                   "multiplied(one, other)", "divided(one, other)"],
    "base.discs": ["are_same(one, other)"],
    "base.trails": ["trail(disc, index)", "trail_ends(disc)", "trail_with(disc, tie, end)", "round_trails(disc)",
                    "regions_of(disc)", "region_at(disc, index)", "region_beside(disc, tie, end)", "regions_across(disc, tie)"],
    "pair.pairings": ["each_pairing(disc)", "count_pairings(disc)", "is_pairing(disc, value)", "set_of_pairing(disc, pairing)",
                      "let_sets(disc)", "is_let(disc, value)", "pairing_with(disc, chosen)", "bar_of(disc, chosen)",
                      "is_bar(disc, chosen, value)", "lack_in(rim, black, white)", "is_lack(rim, black, white, value)"],
    "pair.leanings": ["leaning_of(disc, pairing)", "pairing_by(disc, leaning)", "is_leaning(disc, value)",
                      "sources(disc, leaning)", "ways_between(disc, leaning, pairing)", "pairing_behind(disc, leaning, ways)",
                      "is_family(disc, leaning, value)"],
    "order.orders": ["each_knot(order)", "each_order(many, *, level=None)", "count_orders(many, *, level=None)",
                     "top_order(many, level)"],
    "order.necklaces": ["necklace_of(order)", "is_necklace(many, value)", "order_of_necklace(necklace)", "sets_of(order)",
                        "is_set_of(order, value)", "barred_at(order, places)", "order_of_sets(many, sets)", "order_of(disc)"],
    "order.diagrams": ["is_diagram(many, rows, value)", "order_of_diagram(diagram)", "diagram_of(order)",
                       "each_diagram(many, level)", "disc_of_diagram(diagram)"],
    "build.bridges": ["bare_disc(marks)", "with_rim_place(disc, index, colour)", "bridged(disc, index, *, ends=False)",
                      "is_steps(value)", "order_by(steps)", "disc_by(steps)", "steps_of(order)", "disc_of(order)"],
    "thin.faults": ["left_out(disc, ties)", "can_go(disc, tie)", "is_thin(disc)", "fault_of(disc)", "is_fault(disc, value)",
                    "needed_sets(disc)", "is_needed_sets(disc, value)"],
}
METHODS = {
    "base.discs.Disc": ["__init__(self, rim, black, white)", "colour(self, place)", "round_of(self, place)",
                        "ends_of(self, tie)", "inner_end(self, index)", "renamed(self, places, ties)"],
    "order.orders.Order": ["__init__(self, numbers)", "turned(self, by)", "starts_exchanged(self, index)",
                           "ends_exchanged(self, index)", "__call__(self, number)"],
    "order.diagrams.Diagram": ["__init__(self, many, rows, full)"],
}
MADE_BY = {
    "base.discs.Disc": "from_lines(cls, *lines)",
    "order.orders.Order": "of_ends(cls, ends, marks)",
    "order.diagrams.Diagram": "from_lines(cls, many, rows, *lines)",
}
GENERATORS = {"each_pairing", "each_knot", "each_order", "each_diagram"}


def told(name):
    module, _, rest = name.rpartition(".")
    return getattr(importlib.import_module("rimtrails." + module), rest)


class Interface(unittest.TestCase):
    def check(self, function, text):
        self.assertEqual(function.__name__ + str(inspect.signature(function)), text)

    def test_functions(self):
        for module, texts in FUNCTIONS.items():
            for text in texts:
                name = text.partition("(")[0]
                function = told(f"{module}.{name}")
                self.check(function, text)
                self.assertEqual(function.__module__, "rimtrails." + module)
                self.assertIs(inspect.isgeneratorfunction(function), name in GENERATORS)

    def test_classes(self):
        for name, texts in METHODS.items():
            own = vars(told(name))
            for text in texts:
                self.check(own[text.partition("(")[0]], text)
            self.assertEqual(told(name).__module__, "rimtrails." + name.rpartition(".")[0])

    def test_class_methods(self):
        for name, text in MADE_BY.items():
            made = vars(told(name))[text.partition("(")[0]]
            self.assertIs(type(made), classmethod)
            self.check(made.__func__, text)


if __name__ == "__main__":
    unittest.main()
