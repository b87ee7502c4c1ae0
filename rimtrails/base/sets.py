"""Sets of rim places, told by ascending tuples."""

from rimtrails.base.words import is_integer


def is_ascending(values):
    """Whether each of the values is greater than the one before it."""
    return all([values[at] < values[at + 1] for at in range(len(values) - 1)])


def is_rim_set(many, value):
    """Whether the value is an ascending tuple of rim places from 1 to `many`, perhaps ()."""
    if not isinstance(value, tuple) or not all([is_integer(place) for place in value]):
        return False
    return all([1 <= place <= many for place in value]) and is_ascending(value)


def sets_of_size(many, size):
    """The list of all sets of so many of the rim places from 1 to `many`, ascending."""
    sets = [()]
    for _ in range(size):
        sets = [(*some, place) for some in sets for place in range(max([0, *some]) + 1, many + 1)]
    return sets
