"""What a bench keeps at one time, and whether pledges hold then."""

from rimtrails.order.necklaces import order_of
from rimtrails.pair.pairings import is_let
from rimtrails.point.weights import point_by
from rimtrails.thin.faults import is_thin
from rimtrails.thin.moves import is_short

# The exponents are written out because they are literals in this package.
_CHUNK = 10 ** 60
_FIGURES = 60


class Standing:
    """A disc, numbers of it, pledges, and the lines that tell the disc and the numbers. It never changes."""

    def __init__(self, web, weights, pledged):
        self.web = web
        self.weights = weights
        self.pledged = pledged
        self.told_lines = (*web.lines, *[f"tie {tie} {_figures_of(weights[tie])}" for tie in web.ties])


def news_between(before, behind):
    """The lines that are there no more, and those that were not there before."""
    gone = [line for line in before.told_lines if line not in behind.told_lines]
    new = [line for line in behind.told_lines if line not in before.told_lines]
    return tuple(sorted(gone)), tuple(sorted(new))


def broken_pledge(standing):
    """The first pledge that does not hold, or None."""
    for pledge in standing.pledged:
        if not _does_hold(pledge, standing.web, standing.weights):
            return pledge
    return None


def _does_hold(pledge, disc, numbers):
    """Whether the pledge [18.3] holds for the disc and its numbers."""
    word = pledge[0]
    if word == "order":
        return order_of(disc).numbers == pledge[1]
    if word == "thin":
        return is_thin(disc)
    if word == "short":
        return is_short(disc)
    if word == "regions":
        return disc.regions <= pledge[1]
    if word == "point":
        return point_by(disc, numbers).get(pledge[1]) == pledge[2]
    return is_let(disc, pledge[1]) == (word == "let")


def _figures_of(number):
    """The figures of an integer of at least 1, also of one that is too long for `str`."""
    chunks = []
    while number >= _CHUNK:
        number, rest = divmod(number, _CHUNK)
        chunks.append(str(rest).zfill(_FIGURES))
    return "".join([str(number), *chunks[::-1]])
