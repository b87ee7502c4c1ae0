"""Orders of rim places."""

from rimtrails.base.checks import check_many, check_number
from rimtrails.base.discs import MAX_RIM
from rimtrails.base.words import is_integer
from rimtrails.errors import InvalidNumber, InvalidOperation, InvalidOrder
from rimtrails.order.counts import numbers_ascending, numbers_by_level


def are_numbers(value):
    """Whether the value are the numbers of an order [6.1]."""
    if not isinstance(value, tuple) or not 1 <= len(value) <= MAX_RIM:
        return False
    many = len(value)
    if not all([is_integer(number) for number in value]):
        return False
    if not all([at + 1 <= value[at] <= at + 1 + many for at in range(many)]):
        return False
    return len(set([number % many for number in value])) == many


def ends_of_numbers(numbers):
    """The ends [0.12] of the rim places of an order with these numbers."""
    many = len(numbers)
    return tuple([(number - 1) % many + 1 for number in numbers])


def _value_at(numbers, number):
    """f of any integer, by the numbers of the order f."""
    many = len(numbers)
    at = (number - 1) % many
    return numbers[at] + number - 1 - at


def _knots_from(numbers, index):
    """The list of the knots whose lesser rim place is `index`."""
    own = numbers[index - 1]
    return [(index, other) for other in range(index + 1, index + len(numbers)) if own > _value_at(numbers, other)]


def _is_ends(ends, marks):
    """Whether the ends are those of some rim places, and the marks go together with them [6.3]."""
    if not isinstance(ends, tuple) or not isinstance(marks, dict):
        return False
    if not all([is_integer(end) for end in ends]) or sorted(ends) != list(range(1, len(ends) + 1)):
        return False
    # True would be found among the rim places as 1.
    if not all([is_integer(index) for index in marks]):
        return False
    if not all([mark == "black" or mark == "white" for mark in marks.values()]):
        return False
    return sorted(marks) == [at + 1 for at in range(len(ends)) if ends[at] == at + 1]


class Order:
    """An order [6.1]. It never changes."""

    def __init__(self, numbers):
        if not are_numbers(numbers):
            raise InvalidOrder("these are no numbers of an order")
        self._numbers = numbers

    @classmethod
    def of_ends(cls, ends, marks):
        """The order with these ends and marks."""
        if not _is_ends(ends, marks):
            raise InvalidOrder("these ends and marks do not tell an order")
        numbers = []
        for at, end in enumerate(ends):
            does_fall = end < at + 1 or marks.get(at + 1) == "white"
            numbers.append(end + len(ends) if does_fall else end)
        return cls(tuple(numbers))

    @property
    def numbers(self):
        """The tuple of the numbers f(1), .., f(n)."""
        return self._numbers

    @property
    def many(self):
        """The number of rim places."""
        return len(self._numbers)

    @property
    def level(self):
        """The number of rim places that fall."""
        return len(self.falling)

    @property
    def knots(self):
        """The number of knots."""
        return sum([len(_knots_from(self._numbers, at + 1)) for at in range(len(self._numbers))])

    @property
    def size(self):
        """The level, times the number of rim places less the level, less the number of knots."""
        return self.level * (self.many - self.level) - self.knots

    @property
    def ends(self):
        """The tuple of the ends of 1, 2, .., n."""
        return ends_of_numbers(self._numbers)

    @property
    def marks(self):
        """The dict from the fixed rim places to their colours."""
        fixed = [at + 1 for at, end in enumerate(self.ends) if end == at + 1]
        return {index: "black" if self._numbers[index - 1] == index else "white" for index in fixed}

    @property
    def falling(self):
        """The ascending tuple of the rim places that fall."""
        many = len(self._numbers)
        return tuple([at + 1 for at in range(many) if self._numbers[at] > many])

    @property
    def dual(self):
        """The order that takes each f(j) to j + n."""
        many = len(self._numbers)
        numbers = list(self._numbers)
        for at, end in enumerate(self.ends):
            numbers[end - 1] = at + 1 + many + end - self._numbers[at]
        return Order(tuple(numbers))

    @property
    def mirrored(self):
        """The order that takes each n + 1 - f(j) to n + 1 - j."""
        many = len(self._numbers)
        numbers = list(self._numbers)
        for at, end in enumerate(self.ends):
            numbers[many - end] = many - at + self._numbers[at] - end
        return Order(tuple(numbers))

    def turned(self, by):
        """The order that takes each j + t to f(j) + t, where t is `by`."""
        if not is_integer(by):
            raise InvalidNumber(by)
        return Order(tuple([_value_at(self._numbers, at + 1 - by) + by for at in range(len(self._numbers))]))

    def starts_exchanged(self, index):
        """The order with the numbers at this rim place and at the next one exchanged."""
        check_number(index, 1, len(self._numbers) - 1)
        numbers = list(self._numbers)
        numbers[index - 1], numbers[index] = numbers[index], numbers[index - 1]
        return _exchanged(tuple(numbers))

    def ends_exchanged(self, index):
        """The order with the ends at this rim place and at the next one exchanged."""
        check_number(index, 1, len(self._numbers) - 1)
        apart = {index: 1, index + 1: -1}
        numbers = [number + apart.get(end, 0) for number, end in zip(self._numbers, self.ends)]
        return _exchanged(tuple(numbers))

    def __call__(self, number):
        """f of any integer."""
        if not is_integer(number):
            raise InvalidNumber(number)
        return _value_at(self._numbers, number)

    def __getitem__(self, at):
        if not is_integer(at) or not 1 <= at <= len(self._numbers):
            raise InvalidNumber(at)
        return self._numbers[at - 1]

    def __contains__(self, value):
        return is_integer(value) and value in self.marks

    def __len__(self):
        return len(self._numbers)

    def __iter__(self):
        return iter(self._numbers)

    def __eq__(self, other):
        return isinstance(other, Order) and self._numbers == other._numbers

    def __str__(self):
        return " ".join(["order", *[str(number) for number in self._numbers]])


def _exchanged(numbers):
    """The order with these numbers, which an exchange has made."""
    if not are_numbers(numbers):
        raise InvalidOperation("the exchange does not lead to an order")
    return Order(numbers)


def check_order(order):
    """Raises the error for what is no order."""
    if not isinstance(order, Order):
        raise InvalidOrder("this is no order")


def each_knot(order):
    """Yields all knots [6.2], ascending."""
    check_order(order)
    for index in range(1, order.many + 1):
        for knot in _knots_from(order.numbers, index):
            yield knot


def each_order(many, *, level=None):
    """Yields all orders of so many rim places, or those of a level, ascending by their numbers."""
    _check_level(many, level)
    for numbers in numbers_ascending(many, level):
        yield Order(numbers)


def count_orders(many, *, level=None):
    """The number of the orders of so many rim places, or of those of a level."""
    _check_level(many, level)
    by_level = numbers_by_level(many)[()]
    return sum(by_level) if level is None else by_level[level]


def top_order(many, level):
    """The order of the level that has f(i) = i + level for each i."""
    check_many(many)
    check_number(level, 0, many)
    return Order(tuple([at + 1 + level for at in range(many)]))


def _check_level(many, level):
    """Raises the error for the first one that is no number of rim places, or neither a level of theirs nor None."""
    check_many(many)
    if level is not None:
        check_number(level, 0, many)
