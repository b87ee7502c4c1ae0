"""Determinants and ranks of columns of integers."""

from math import gcd


def determinant(columns):
    """The determinant of columns that have as many integers as there are columns."""
    rows = [list(column) for column in columns]
    many = len(rows)
    sign = 1
    divisor = 1
    for at in range(many):
        others = [index for index in range(at, many) if rows[index][at] != 0]
        if len(others) == 0:
            return 0
        if others[0] != at:
            rows[at], rows[others[0]] = rows[others[0]], rows[at]
            sign = -sign
        # Each new integer is a minor times the divisor, so it can be divided.
        for index in range(at + 1, many):
            rows[index] = [(rows[at][at] * number - rows[index][at] * above) // divisor
                           for number, above in zip(rows[index], rows[at])]
        divisor = rows[at][at]
    return sign * divisor


def rank_of(columns):
    """The greatest number of the columns of which none is a sum of multiples of the others."""
    leading = []
    for column in columns:
        rest = column
        for at, lead in leading:
            rest = [lead[at] * number - rest[at] * other for number, other in zip(rest, lead)]
        seats = [at for at, number in enumerate(rest) if number != 0]
        if len(seats) > 0:
            leading.append((seats[0], _without_divisor(rest)))
    return len(leading)


def _without_divisor(numbers):
    """The integers, which are not all 0, divided by their greatest common divisor."""
    divisor = 0
    for number in numbers:
        divisor = gcd(divisor, number)
    return [number // divisor for number in numbers]
