"""How many orders there are, and which, by the numbers that they begin with."""


def numbers_by_level(many):
    """The dict from each ascending tuple of ends that some orders begin with to how many ways there are to go on.

    The ends are those of the rim places from 1 to the length of the tuple. The ways are told by a list: for
    each level, how many ways lead to so many rim places that fall behind these ones.
    """
    ways = {tuple(range(1, many + 1)): [1] + [0] * many}
    for index in range(many, 0, -1):
        longest = [ends for ends in list(ways) if len(ends) == index]
        for taken in longest:
            for end in taken:
                before = tuple([other for other in taken if other != end])
                counts = ways.setdefault(before, [0] * (many + 1))
                for falls in _falls(index, end):
                    _count_on(counts, ways[taken], falls)
    return ways


def _falls(index, end):
    """How many rim places fall at this one, 0 or 1: both can be if it is its own end."""
    if end == index:
        return [0, 1]
    return [0] if end > index else [1]


def _count_on(counts, more, falls):
    """Adds to the counts of each level those that are told for so many falling places less."""
    for level in range(falls, len(counts)):
        counts[level] += more[level - falls]


def numbers_ascending(many, level):
    """Yields the numbers of all orders, or of those of the level, ascending."""
    ways = numbers_by_level(many)
    waiting = [()]
    while len(waiting) > 0:
        numbers = waiting.pop()
        if len(numbers) == many:
            yield numbers
            continue
        index = len(numbers) + 1
        for number in range(index + many, index - 1, -1):
            more = (*numbers, number)
            if _leads_on(more, level, many, ways):
                waiting.append(more)


def _leads_on(numbers, level, many, ways):
    """Whether some order, of the level if one is told, begins with these numbers."""
    ends = tuple(sorted([(number - 1) % many + 1 for number in numbers]))
    if len(set(ends)) < len(ends):
        return False
    if level is None:
        return True
    left = level - len([number for number in numbers if number > many])
    return left >= 0 and ways[ends][left] > 0
