"""Discs of many shapes, made by chance from told seeds, so always the same ones."""

import functools
import random

from rimtrails.base.discs import Disc
from rimtrails.base.webs import from_least
from rimtrails.base.words import nth_name
from rimtrails.build.bridges import disc_of
from rimtrails.errors import InvalidDisc
from rimtrails.order.orders import Order
from rimtrails.thin.moves import each_move, moved
from tests.samples import BLACK, DOUBLE, HUNG, LINE, SQUARE, STAR

SIDES = "URDL"


def grid(rows, columns, seats):
    """A disc of squares, row by row; the rim has ties at these seats, which are counted clockwise from 0."""
    return made(*_grid(rows, columns, seats))


def made(rim, rounds, blacks):
    """The disc with these rounds, told from any tie on."""
    rounds = {place: from_least(tuple(ties)) for place, ties in rounds.items()}
    black = {place: ties for place, ties in rounds.items() if place in blacks}
    return Disc(tuple(rim), black, {place: ties for place, ties in rounds.items() if place not in blacks})


def _grid(rows, columns, seats):
    ties = {}
    for row in range(rows):
        for column in range(columns):
            if column + 1 < columns:
                ties[row, column, "R"] = ties[row, column + 1, "L"] = nth_name(len(set(ties.values())))
            if row + 1 < rows:
                ties[row, column, "D"] = ties[row + 1, column, "U"] = nth_name(len(set(ties.values())))
    border = [(0, column, "U") for column in range(columns)] + [(row, columns - 1, "R") for row in range(rows)]
    border += [(rows - 1, column, "D") for column in reversed(range(columns))]
    border += [(row, 0, "L") for row in reversed(range(rows))]
    rim = []
    for seat in seats:
        rim.append(nth_name(len(set(ties.values()))))
        ties[border[seat]] = rim[-1]
    rounds = {}
    blacks = []
    for row in range(rows):
        for column in range(columns):
            place = nth_name(row * columns + column)
            rounds[place] = [ties[row, column, side] for side in SIDES if (row, column, side) in ties]
            if (row + column) % 2 == 1:
                blacks.append(place)
    return rim, rounds, blacks


def _new(names):
    return next(name for name in map(nth_name, range(700)) if name not in names)


class _Web:
    """A web that is changed here and there."""

    def __init__(self, rim, rounds, blacks):
        self.rim = list(rim)
        self.rounds = {place: list(ties) for place, ties in rounds.items()}
        self.blacks = list(blacks)

    def ties(self):
        return sorted({tie for ties in self.rounds.values() for tie in ties})

    def new_place(self, black, ties):
        place = _new(self.rounds)
        self.rounds[place] = list(ties)
        if black:
            self.blacks.append(place)
        return place

    def lose(self, chance):
        """One inner tie less."""
        inner = [tie for tie in self.ties() if tie not in self.rim]
        if inner:
            gone = chance.choice(inner)
            for ties in self.rounds.values():
                if gone in ties:
                    ties.remove(gone)

    def double(self, chance):
        """One inner tie more, beside another one."""
        inner = [tie for tie in self.ties() if tie not in self.rim]
        if inner:
            beside = chance.choice(inner)
            new = _new(self.ties())
            first, last = [ties for ties in self.rounds.values() if beside in ties]
            first.insert(first.index(beside), new)
            last.insert(last.index(beside) + 1, new)

    def hang(self, chance):
        """Two places that hang on by one tie, in a row."""
        place = chance.choice(sorted(self.rounds))
        new = _new(self.ties())
        self.rounds[place].insert(chance.randrange(len(self.rounds[place]) + 1), new)
        far = _new(self.ties())
        self.new_place(place not in self.blacks, [new, far])
        self.new_place(place in self.blacks, [far])

    def end(self, chance):
        """A dead end at a rim place."""
        tie = chance.choice(self.rim)
        for ties in self.rounds.values():
            if tie in ties and len(ties) > 1:
                ties.remove(tie)
        if not any(tie in ties for ties in self.rounds.values()):
            self.new_place(chance.randrange(2) == 1, [tie])

    def put(self, chance):
        """A place of the other colour on a tie of the rim."""
        tie = chance.choice(self.rim)
        place = next(place for place, ties in self.rounds.items() if tie in ties)
        new = _new(self.ties())
        self.rounds[place][self.rounds[place].index(tie)] = new
        self.new_place(place not in self.blacks, [tie, new])


def _by_chance(chance):
    rows, columns = chance.choice([(1, 1), (1, 2), (2, 2), (2, 2), (2, 3), (3, 3)])
    many = min(chance.randint(1, 8), 2 * (rows + columns))
    web = _Web(*_grid(rows, columns, sorted(chance.sample(range(2 * (rows + columns)), many))))
    for _ in range(chance.randint(0, 6)):
        change = chance.choice([web.lose, web.lose, web.double, web.hang, web.end, web.put])
        change(chance)
    if chance.randrange(2):
        # Other colours for all places.
        web.blacks = [place for place in web.rounds if place not in web.blacks]
    return made(web.rim, web.rounds, web.blacks)


@functools.lru_cache(maxsize=None)
def discs_by_chance(count, most_ties=14):
    """So many discs with no more than so many ties, no two of them the same, and the discs of the document."""
    chance = random.Random(count)
    found = [SQUARE, STAR, BLACK, LINE, DOUBLE, HUNG]
    seen = set()
    while len(found) < count:
        try:
            disc = _by_chance(chance)
        except (InvalidDisc, ValueError):
            continue
        if len(disc) <= most_ties and disc.lines not in seen:
            seen.add(disc.lines)
            found.append(disc)
    return tuple(found)


def thin_by_chance(order, seed, steps=6):
    """A thin disc with this order, by so many drawn moves from the one that its steps make."""
    chance = random.Random(seed)
    disc = disc_of(order)
    for _ in range(steps):
        moves = list(each_move(disc))
        squares = [move for move in moves if move[0] == "square"]
        wanted = squares if squares and chance.randrange(2) else moves
        if moves:
            disc = moved(disc, chance.choice(wanted))
    return disc


def renamed_by_chance(disc, seed):
    """The disc with other names, some of them those of other places and ties before."""
    chance = random.Random(seed)
    pool = [nth_name(index) for index in range(100)]
    places = chance.sample(pool, len(disc.places))
    return disc.renamed(dict(zip(disc.places, places)), dict(zip(disc.ties, chance.sample(pool, len(disc)))))


def orders_by_chance(many, count):
    """So many orders of so many rim places."""
    chance = random.Random(many * 1000 + count)
    found = []
    while len(found) < count:
        ends = chance.sample(range(1, many + 1), many)
        marks = {at: chance.choice(("black", "white")) for at in range(1, many + 1) if ends[at - 1] == at}
        found.append(Order.of_ends(tuple(ends), marks))
    return found
