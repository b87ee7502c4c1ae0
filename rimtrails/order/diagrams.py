"""Stair diagrams of orders."""

from rimtrails.base.checks import check_many, check_number
from rimtrails.base.discs import MAX_RIM
from rimtrails.base.sets import is_ascending, is_rim_set, sets_of_size
from rimtrails.base.words import is_integer
from rimtrails.build.bridges import disc_of
from rimtrails.errors import InvalidDiagram, InvalidSet
from rimtrails.order.orders import Order, check_order


def _boxes(many, rows):
    """The ascending list of the boxes: each row with each column that is greater."""
    return [(row, column) for row in rows for column in range(row + 1, many + 1) if column not in rows]


def _is_box(value):
    """Whether the value is a pair of integers."""
    return isinstance(value, tuple) and len(value) == 2 and is_integer(value[0]) and is_integer(value[1])


def _is_stair(boxes, full):
    """Whether no empty box has both a full box above it and a full box to the left of it."""
    for row, column in boxes:
        if (row, column) not in full:
            above = [box for box in full if box[1] == column and box[0] < row]
            left = [box for box in full if box[0] == row and box[1] > column]
            if len(above) > 0 and len(left) > 0:
                return False
    return True


def _is_full(many, rows, value):
    """Whether the value tells the full boxes of a stair diagram with these rows."""
    if not isinstance(value, tuple) or not all([_is_box(box) for box in value]) or not is_ascending(value):
        return False
    boxes = _boxes(many, rows)
    return all([box in boxes for box in value]) and _is_stair(boxes, value)


def _are_rows(many, value):
    """Whether the values are a number of rim places and the rows of a diagram with so many."""
    return is_integer(many) and 1 <= many <= MAX_RIM and is_rim_set(many, value)


def _line_boxes(many, rows, row):
    """The boxes of a row, from left to right."""
    return [box for box in _boxes(many, rows)[::-1] if box[0] == row]


def _is_line(boxes, value):
    """Whether the value tells for these boxes which ones are full."""
    return isinstance(value, str) and len(value) == len(boxes) and all([sign in "+." for sign in value])


class Diagram:
    """A stair diagram [8.1]. It never changes."""

    def __init__(self, many, rows, full):
        if not _are_rows(many, rows) or not _is_full(many, rows, full):
            raise InvalidDiagram("these are no stair diagram")
        self._many = many
        self._rows = rows
        self._full = full

    @classmethod
    def from_lines(cls, many, rows, *lines):
        """The stair diagram with a string of signs for each row."""
        if not _are_rows(many, rows) or len(lines) != len(rows):
            raise InvalidDiagram("there is not one line for each row")
        full = []
        for row, line in zip(rows, lines):
            boxes = _line_boxes(many, rows, row)
            if not _is_line(boxes, line):
                raise InvalidDiagram("a line does not fit the boxes of its row")
            full.extend([box for box, sign in zip(boxes, line) if sign == "+"])
        return cls(many, rows, tuple(sorted(full)))

    @property
    def many(self):
        """The number of rim places."""
        return self._many

    @property
    def rows(self):
        """The ascending tuple of the rows."""
        return self._rows

    @property
    def full(self):
        """The ascending tuple of the full boxes."""
        return self._full

    @property
    def columns(self):
        """The ascending tuple of the columns."""
        return tuple([index for index in range(1, self._many + 1) if index not in self._rows])

    @property
    def boxes(self):
        """The ascending tuple of all boxes."""
        return tuple(_boxes(self._many, self._rows))

    @property
    def level(self):
        """The number of rows."""
        return len(self._rows)

    @property
    def lines(self):
        """The tuple of the strings of signs, for each row one."""
        rows = [_line_boxes(self._many, self._rows, row) for row in self._rows]
        return tuple(["".join(["+" if box in self._full else "." for box in boxes]) for boxes in rows])

    def __contains__(self, value):
        return _is_box(value) and value in self._full

    def __len__(self):
        return len(self._full)

    def __iter__(self):
        return iter(self._full)

    def __eq__(self, other):
        return (isinstance(other, Diagram) and self._many == other._many
                and self._rows == other._rows and self._full == other._full)

    def __str__(self):
        return f"diagram of level {len(self._rows)}, {len(self._full)} full"


def is_diagram(many, rows, value):
    """Whether the value tells the full boxes of a stair diagram with these rows."""
    check_many(many)
    if not is_rim_set(many, rows):
        raise InvalidSet("this is no ascending tuple of rim places")
    return _is_full(many, rows, value)


def order_of_diagram(diagram):
    """The order of the stair diagram."""
    _check_diagram(diagram)
    numbers = []
    for index in range(1, diagram.many + 1):
        end = _path_end(diagram.rows, diagram.full, index)
        numbers.append(end + diagram.many if end in diagram.rows else end)
    return Order(tuple(numbers))


def diagram_of(order):
    """The stair diagram with this order."""
    check_order(order)
    many = order.many
    starts = {end: at + 1 for at, end in enumerate(order.ends)}
    rows = tuple(sorted([order.ends[index - 1] for index in order.falling]))
    full = []
    for row in rows:
        # What comes from the left is kept here, what comes from above in `starts`, at the column.
        left = starts[row]
        for box in _line_boxes(many, rows, row):
            above = starts[box[1]]
            if left > above:
                full.append(box)
                left, starts[box[1]] = above, left
    return Diagram(many, rows, tuple(sorted(full)))


def each_diagram(many, level):
    """Yields all stair diagrams with so many rim places and rows, ascending by rows, then by full boxes."""
    check_many(many)
    check_number(level, 0, many)
    for rows in sets_of_size(many, level):
        boxes = _boxes(many, rows)
        waiting = [()]
        while len(waiting) > 0:
            full = waiting.pop()
            yield Diagram(many, rows, full)
            # Boxes that come later cannot mend what breaks the rule; each diagram comes before its longer ones.
            longer = [(*full, box) for box in boxes if len(full) == 0 or box > full[-1]]
            waiting.extend([more for more in longer[::-1] if _is_stair(boxes, more)])


def disc_of_diagram(diagram):
    """A thin disc with the order of the diagram."""
    return disc_of(order_of_diagram(diagram))


def _check_diagram(diagram):
    """Raises the error for what is no stair diagram."""
    if not isinstance(diagram, Diagram):
        raise InvalidDiagram("this is no stair diagram")


def _path_end(rows, full, index):
    """The row or the column at which the path [8.2] from the rim place ends."""
    end = index
    is_in_row = index in rows
    if is_in_row:
        ways = [column for row, column in full if row == index][:1]
    else:
        ways = [row for row, column in full if column == index][-1:]
    # Each way is the row or the column that crosses the one of `end` in the next full box.
    while len(ways) > 0:
        last = end
        end = ways[0]
        if is_in_row:
            ways = [row for row, column in full if column == end and row < last][-1:]
        else:
            ways = [column for row, column in full if row == end and column > last][:1]
        is_in_row = not is_in_row
    return end
