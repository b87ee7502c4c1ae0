"""Ways of moves between thin discs with one order, and how many squares they need."""

from rimtrails.base.checks import check_disc
from rimtrails.base.discs import are_same
from rimtrails.errors import InvalidOperation, TooMany
from rimtrails.label.exchanging import by_bits, places_of, reached_by_exchanges
from rimtrails.label.labels import collection_of, each_collection, labels_of
from rimtrails.label.rows import discs_behind, moves_from_short, moves_to_short
from rimtrails.label.tilings import disc_with_labels
from rimtrails.order.necklaces import order_of
from rimtrails.pair.pairings import let_sets
from rimtrails.thin.faults import check_thin
from rimtrails.thin.moves import is_move, moved

MAX_SHORT = 1000


def are_moved(one, other):
    """Whether two thin discs are moved to one another."""
    check_thin(one)
    check_thin(other)
    return order_of(one) == order_of(other)


def way_between(one, other):
    """Moves that lead from the one thin disc to what the other one is but for names, or None."""
    if not are_moved(one, other):
        return None
    if are_same(one, other):
        return ()
    exchanged = _exchanged_between(one, other)
    way = moves_to_short(one)
    disc = discs_behind(one, way)[-1]
    for places in exchanged:
        square = _square_with(disc, places)
        row = [square, *moves_to_short(moved(disc, square))]
        disc = discs_behind(disc, row)[-1]
        way.extend(row)
    return (*way, *moves_from_short(disc, other))


def is_way(one, other, value):
    """Whether the value is a way from the one thin disc to the other one."""
    check_thin(one)
    check_thin(other)
    if not isinstance(value, tuple):
        return False
    disc = one
    for move in value:
        if not is_move(disc, move):
            return False
        disc = moved(disc, move)
    return are_same(disc, other)


def set_apart(one, other):
    """A set that is let for just one of both discs, or None."""
    check_disc(one)
    check_disc(other)
    if one.many != other.many:
        raise InvalidOperation("the discs have not equally many rim places")
    apart = sorted(set(let_sets(one)) ^ set(let_sets(other)))
    return apart[0] if len(apart) > 0 else None


def each_short(order):
    """Yields all short discs of the order, ascending by their lines."""
    collections = list(each_collection(order))
    discs = [disc_with_labels(order, collection) for collection in collections]
    for disc in sorted(discs, key=_lines_of):
        yield disc


def distance(one, other):
    """The least number of squares in a way between two thin discs, or None if there is no way."""
    if not are_moved(one, other):
        return None
    return len(_exchanged_between(one, other))


def _lines_of(disc):
    """What short discs are sorted by."""
    return disc.lines


def _exchanged_between(one, other):
    """The list of the sets that a shortest row of exchanges between both collections exchanges, one after the other."""
    start = by_bits(collection_of(one))
    reached = by_bits(collection_of(other))
    if start == reached:
        return []
    before = reached_by_exchanges(start, MAX_SHORT)
    if before is None:
        raise TooMany(MAX_SHORT)
    exchanged = []
    while reached != start:
        gone = [bits for bits in before[reached] if bits not in reached]
        exchanged.append(places_of(gone[0]))
        reached = before[reached]
    return exchanged[::-1]


def _square_with(disc, places):
    """The move that turns over the square of the short disc whose label is the set."""
    regions = [region for region, label in labels_of(disc).items() if label == places]
    return ("square", tuple(sorted([tie for tie, _ in regions[0]])))
