"""[8.1] to [8.5]: stair diagrams."""

import inspect
import itertools
import unittest

from rimtrails.errors import InvalidDiagram, InvalidNumber, InvalidOrder, InvalidSet
from rimtrails.order import diagrams
from rimtrails.order.diagrams import Diagram, diagram_of, disc_of_diagram, each_diagram, is_diagram, order_of_diagram
from rimtrails.order.necklaces import necklace_of, order_of, sets_of
from rimtrails.order.orders import Order, count_orders, each_order, top_order
from rimtrails.thin.faults import is_thin
from tests.refusals import check_arguments, check_judge, check_refused, near, no_numbers, not_one_of
from tests.samples import LINE, wrong_values

FULL = Diagram(4, (1, 2), ((1, 3), (1, 4), (2, 3), (2, 4)))
LESS = Diagram.from_lines(4, (1, 2), "++", ".+")
ALL = [one for many in range(1, 6) for level in range(many + 1) for one in each_diagram(many, level)]
FEW = [one for one in ALL if one.many < 5]


def subsets(items):
    items = list(items)
    return [some for size in range(len(items) + 1) for some in itertools.combinations(items, size)]


def boxes_told(many, rows):
    return [(i, j) for i in range(1, many + 1) for j in range(1, many + 1) if i in rows and j not in rows and i < j]


def is_stair(boxes, full):
    """[8.1], told once more."""
    return not any((i, j) not in full and any((above, j) in full for above in range(1, i))
                   and any((i, left) in full for left in range(j + 1, 9)) for i, j in boxes)


def all_full(many, rows):
    """All tuples that can be full, ascending."""
    boxes = boxes_told(many, rows)
    return sorted(full for full in subsets(boxes) if is_stair(boxes, full))


def ways_from(full, box, met):
    """The ways [8.4] from a box on: the boxes that each one has, and the column at which it ends."""
    met = met | {box}
    i, j = box
    left = [(i, other) for other in range(j + 1, 9) if (i, other) in full][:1]
    below = [(other, j) for other in range(i + 1, 9) if (other, j) in full][:1]
    found = [] if below else [(met, j)]
    for other in left + below:
        found.extend(ways_from(full, other, met))
    return found


def sets_told(diagram):
    """The let sets, by the words of [8.4]."""
    found = []
    for places in itertools.combinations(range(1, diagram.many + 1), diagram.level):
        starts = [row for row in diagram.rows if row not in places]
        ends = {column for column in diagram.columns if column in places}
        if leads(diagram.full, starts, ends, frozenset()):
            found.append(places)
    return tuple(found)


def leads(full, starts, ends, used):
    if not starts:
        return not ends
    first = [box for box in full if box[0] == starts[0]][:1]
    for box in first:
        for met, column in ways_from(full, box, frozenset()):
            if column in ends and not met & used and leads(full, starts[1:], ends - {column}, used | met):
                return True
    return False


def is_accepted(*args):
    try:
        Diagram(*args)
    except InvalidDiagram:
        return False
    return True


class Examples(unittest.TestCase):
    def test_full(self):
        told = [FULL.lines, FULL.columns, len(FULL), (1, 3) in FULL, str(FULL), order_of_diagram(FULL).numbers, list(FULL)[1]]
        self.assertEqual(told, [("++", "++"), (3, 4), 4, True, "diagram of level 2, 4 full", (3, 4, 5, 6), (1, 4)])

    def test_less(self):
        told = [LESS.full, order_of_diagram(LESS).numbers, diagram_of(Order((3, 4, 6, 5))) == LESS,
                is_thin(disc_of_diagram(LESS))]
        self.assertEqual(told, [((1, 3), (1, 4), (2, 3)), (3, 4, 6, 5), True, True])

    def test_judges(self):
        self.assertEqual([is_diagram(4, (1, 2), ((1, 3), (2, 4))), is_diagram(4, (1, 2), ((1, 4), (2, 3)))], [False, True])

    def test_of_an_order(self):
        some = diagram_of(Order((2, 5, 4, 7)))
        self.assertEqual([some.rows, some.lines], [(1, 3), (".+", "+")])

    def test_all_of_few(self):
        told = [[one.lines for one in each_diagram(2, 1)], len(list(each_diagram(4, 2))), len(list(each_diagram(3, 1)))]
        self.assertEqual(told, [[(".",), ("+",), ("",)], 33, 7])


class Boxes(unittest.TestCase):
    def test_which_ones_there_are(self):
        for many in range(1, 9):
            for rows in subsets(range(1, many + 1)):
                empty = Diagram(many, rows, ())
                self.assertEqual(empty.boxes, tuple(boxes_told(many, rows)))
                self.assertEqual(empty.columns, tuple(at for at in range(1, many + 1) if at not in rows))
                self.assertEqual((empty.many, empty.rows, empty.full, empty.level), (many, rows, (), len(rows)))
                self.assertEqual(Diagram(many, rows, empty.boxes).full, empty.boxes)

    def test_rows_that_are_all_places_or_none(self):
        for many in range(1, 9):
            for rows in ((), tuple(range(1, many + 1))):
                self.assertEqual(Diagram(many, rows, ()).boxes, ())
                self.assertEqual(Diagram(many, rows, ()).lines, ("",) * len(rows))
                self.assertFalse(is_accepted(many, rows, ((1, 2),)))
                self.assertEqual(Diagram.from_lines(many, rows, *[""] * len(rows)), Diagram(many, rows, ()))

    def test_which_can_be_full(self):
        for many in range(1, 6):
            for rows in subsets(range(1, many + 1)):
                boxes = boxes_told(many, rows)
                for full in subsets(boxes):
                    self.assertIs(is_accepted(many, rows, full), is_stair(boxes, full))
                    self.assertIs(is_diagram(many, rows, full), is_stair(boxes, full))

    def test_a_full_box_above_and_one_to_the_left(self):
        self.assertFalse(is_accepted(4, (1, 2), ((1, 3), (2, 4))))
        self.assertTrue(is_accepted(4, (1, 2), ((1, 3), (2, 3), (2, 4))))
        self.assertTrue(is_accepted(4, (1, 2), ((1, 4), (2, 3))))
        # Not only the next boxes count.
        self.assertFalse(is_accepted(6, (1, 2, 3), ((1, 4), (3, 6))))
        self.assertTrue(is_accepted(6, (1, 2, 3), ((1, 6), (3, 4))))

    def test_judged(self):
        for many, rows in ((4, (1, 2)), (4, (1, 3)), (3, (1,)), (5, (1, 2, 4)), (3, ()), (2, (1, 2)), (2, (2,))):
            check_judge(self, lambda value: is_diagram(many, rows, value), all_full(many, rows))

    def test_boxes_that_do_not_go(self):
        for full in (((1, 4), (1, 3)), ((1, 3), (1, 3)), ((1, 2),), ((3, 4),), ((2, 1),), ((1, 5),), ((0, 3),), [(1, 3)],
                     ([1, 3],), ((1, 3, 4),), ((1,),), ((True, 3),), ("13",), (1, 3), ((1, "3"),), (None,), ((1, None),)):
            self.assertFalse(is_accepted(4, (1, 2), full), full)
            self.assertIs(is_diagram(4, (1, 2), full), False)


class Made(unittest.TestCase):
    def test_wrong_values(self):
        for value in (*wrong_values(), {}, "12", 0, 9, -1):
            self.assertFalse(is_accepted(value, (1, 2), ()), value)
            check_refused(self, InvalidDiagram, None, Diagram.from_lines, value, (), *())
            if value not in ((2, 4), (1, 2, 3)):
                self.assertFalse(is_accepted(4, value, ()), value)
                check_refused(self, InvalidDiagram, None, Diagram.from_lines, 4, value)
            self.assertFalse(is_accepted(4, (1, 2), value), value)
        self.assertFalse(is_accepted(True, (1,), ()))
        self.assertFalse(is_accepted(1, (2,), ()))

    def test_rows_that_do_not_go(self):
        for rows in ((2, 1), (1, 1), (0,), (5,), [1], (True,), ("1",), (1, None), ((1,),)):
            self.assertFalse(is_accepted(4, rows, ()), rows)
            check_refused(self, InvalidDiagram, None, Diagram.from_lines, 4, rows, "+++")
            check_refused(self, InvalidSet, None, is_diagram, 4, rows, ())

    def test_lines_there_and_back(self):
        for one in ALL:
            self.assertEqual(Diagram.from_lines(one.many, one.rows, *one.lines), one)
            for row, line in zip(one.rows, one.lines):
                columns = [column for column in reversed(one.columns) if column > row]
                self.assertEqual(line, "".join("+" if (row, column) in one.full else "." for column in columns))

    def test_lines_that_do_not_fit(self):
        for lines in ((), ("++",), ("++", "++", ""), ("+", "++"), ("++", "+++"), ("++", "+ "), ("++", "+-"), ("++", ""),
                      ("++", None), (b"++", "++"), ("++", ["+", "+"]), ("+.", "+."), (".+", "+."), (1, 2), (("++", "++"),),
                      ("++", ("+", "+")), ("++", "+\n")):
            right = lines == ("+.", "+.")
            if right:
                self.assertEqual(Diagram.from_lines(4, (1, 2), *lines).lines, lines)
            else:
                check_refused(self, InvalidDiagram, None, Diagram.from_lines, 4, (1, 2), *lines)
        for value in (*wrong_values(), (), {}, 1):
            check_refused(self, InvalidDiagram, None, Diagram.from_lines, 4, (1, 2), value, "++")
            check_refused(self, InvalidDiagram, None, Diagram.from_lines, 4, (1, 2), "++", value)

    def test_all_is_defined_in_the_class_itself(self):
        for name in ("many", "rows", "full", "columns", "boxes", "level", "lines"):
            self.assertIs(type(vars(Diagram)[name]), property, name)
            with self.assertRaises(AttributeError):
                setattr(FULL, name, None)
        self.assertIs(type(vars(Diagram)["from_lines"]), classmethod)
        for name in ("__contains__", "__len__", "__iter__", "__eq__", "__str__"):
            self.assertIn(name, vars(Diagram))
        for some in (Diagram, is_diagram, order_of_diagram, diagram_of, each_diagram, disc_of_diagram):
            self.assertEqual(some.__module__, diagrams.__name__)


class Told(unittest.TestCase):
    def test_full_boxes(self):
        for one in FEW:
            self.assertEqual((len(one), list(one), tuple(one)), (len(one.full), list(one.full), one.full))
            for value in (*boxes_told(one.many, one.rows), (1, 1), (9, 9), (2, 1), *near((1, 2)), *wrong_values(), (), {}, 1):
                told = repr(value) in [repr(box) for box in one.full]
                self.assertIs(value in one, told, value)
        self.assertNotIn((True, 3), FULL)
        self.assertNotIn([1, 3], FULL)

    def test_equal_ones(self):
        for one, other in itertools.product(FEW, repeat=2):
            equal = (one.many, one.rows, one.full) == (other.many, other.rows, other.full)
            self.assertIs(one == other, equal)
            self.assertIs(one != other, not equal)
        for value in (*wrong_values(), (), {}, FULL.full, FULL.lines, list(FULL), Order((3, 4, 5, 6)), LINE):
            self.assertIs(FULL == value, False)
            self.assertIs(FULL != value, True)
        self.assertNotEqual(Diagram(2, (), ()), Diagram(3, (), ()))
        self.assertNotEqual(Diagram(2, (), ()), Diagram(2, (1, 2), ()))

    def test_texts(self):
        told = [str(one) for one in (LESS, Diagram(1, (), ()), Diagram(2, (1, 2), ()), Diagram(2, (1,), ((1, 2),)))]
        self.assertEqual(told, ["diagram of level 2, 3 full", "diagram of level 0, 0 full", "diagram of level 2, 0 full",
                                "diagram of level 1, 1 full"])

    def test_kinds_of_values(self):
        for told in (FULL.rows, FULL.full, FULL.columns, FULL.boxes, FULL.lines):
            self.assertIs(type(told), tuple)
        for told in (FULL.many, FULL.level):
            self.assertIs(type(told), int)


class Orders(unittest.TestCase):
    def test_there_and_back(self):
        for one in ALL:
            order = order_of_diagram(one)
            self.assertEqual((order.many, order.level, order.size), (one.many, one.level, len(one)))
            self.assertEqual(necklace_of(order)[0], one.rows)
            self.assertEqual(diagram_of(order), one)

    def test_each_order_is_that_of_just_one(self):
        for many in range(1, 6):
            for order in each_order(many):
                self.assertEqual(order_of_diagram(diagram_of(order)), order)
        for level in range(9):
            top = diagram_of(top_order(8, level))
            self.assertEqual((top.rows, top.full), (tuple(range(1, level + 1)), top.boxes))

    def test_of_some_of_eight(self):
        for order in itertools.islice(each_order(8, level=4), 0, None, 1500):
            one = diagram_of(order)
            self.assertEqual((order_of_diagram(one), len(one)), (order, order.size))

    def test_places_without_full_boxes_are_fixed(self):
        self.assertEqual(order_of_diagram(Diagram(3, (1, 3), ())).numbers, (4, 2, 6))
        self.assertEqual(order_of_diagram(Diagram.from_lines(4, (1, 2), ".+", "..")).numbers, (3, 6, 5, 4))

    def test_let_sets_by_ways(self):
        for one in ALL[::2]:
            self.assertEqual(sets_told(one), sets_of(order_of_diagram(one)), one.lines)

    def test_mirrored_and_dual(self):
        for one in ALL:
            many = one.many
            full = tuple(sorted((many + 1 - j, many + 1 - i) for i, j in one.full))
            other = Diagram(many, tuple(sorted(many + 1 - column for column in one.columns)), full)
            self.assertEqual(order_of_diagram(other), order_of_diagram(one).mirrored.dual)


class All(unittest.TestCase):
    def test_they_come_ascending(self):
        for many in range(1, 6):
            for level in range(many + 1):
                told = [(rows, full) for rows in itertools.combinations(range(1, many + 1), level)
                        for full in all_full(many, rows)]
                self.assertEqual([(one.rows, one.full) for one in each_diagram(many, level)], told)
                self.assertEqual(len(told), count_orders(many, level=level))

    def test_they_come_one_by_one(self):
        self.assertTrue(inspect.isgeneratorfunction(each_diagram))
        first = list(itertools.islice(each_diagram(8, 4), 3))
        self.assertEqual([one.full for one in first], [(), ((1, 5),), ((1, 5), (1, 6))])
        self.assertEqual([one.rows for one in each_diagram(8, 8)], [tuple(range(1, 9))])
        self.assertEqual(sum(1 for _ in each_diagram(6, 3)), count_orders(6, level=3))

    def test_thin_discs(self):
        for one in FEW[::2] + ALL[-60:]:
            disc = disc_of_diagram(one)
            self.assertIs(is_thin(disc), True)
            self.assertEqual(order_of(disc), order_of_diagram(one))


class WrongArguments(unittest.TestCase):
    def test_of_each_function(self):
        no_diagrams = not_one_of((), InvalidDiagram)
        no_diagrams[1].extend([FULL.full, FULL.lines, Order((1,))])
        for function in (order_of_diagram, disc_of_diagram):
            check_arguments(self, function, (FULL,), [no_diagrams])
        no_orders = not_one_of((), InvalidOrder)
        no_orders[1].append(FULL)
        check_arguments(self, diagram_of, (Order((2, 3)),), [no_orders])
        no_rows = not_one_of([(), (2, 4), (1, 2, 3)], InvalidSet)
        no_rows[1].extend([(2, 1), (5,), (0,), [1], (True,), (1, 1)])
        check_arguments(self, is_diagram, (4, (1, 2), None), [no_numbers(1, 8), no_rows])
        check_arguments(self, each_diagram, (4, 2), [no_numbers(1, 8), no_numbers(0, 4)])
        check_refused(self, InvalidNumber, None, each_diagram, 4, None)


if __name__ == "__main__":
    unittest.main()
