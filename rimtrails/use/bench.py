"""A bench, on which a disc and its numbers are changed."""

from rimtrails.base.checks import check_disc, check_tie
from rimtrails.base.discs import MAX_RIM
from rimtrails.base.sets import is_rim_set
from rimtrails.base.words import is_count, is_integer, new_name
from rimtrails.build.bridges import bridged, check_bridge, with_rim_place
from rimtrails.errors import InvalidNumber, InvalidOperation, NothingToUndo, Refused, TooMany
from rimtrails.order.necklaces import order_of
from rimtrails.order.orders import are_numbers
from rimtrails.point.weights import by_tie, numbers_behind, numbers_with_bridge, point_by, rescaled_by
from rimtrails.thin.faults import left_out
from rimtrails.thin.moves import moved
from rimtrails.use.standings import Standing, broken_pledge, news_between

MAX_PLEDGES = 10


def is_pledge(value):
    """Whether the value is a pledge [18.3]."""
    if not isinstance(value, tuple) or len(value) == 0:
        return False
    word, rest = value[0], value[1:]
    if word == "thin" or word == "short":
        return len(rest) == 0
    if word == "order":
        return len(rest) == 1 and are_numbers(rest[0])
    if word == "let" or word == "barred":
        return len(rest) == 1 and is_rim_set(MAX_RIM, rest[0])
    if word == "regions":
        return len(rest) == 1 and _is_at_least_one(rest[0])
    return word == "point" and len(rest) == 2 and is_rim_set(MAX_RIM, rest[0]) and _is_at_least_one(rest[1])


class Bench:
    """A disc and numbers of it, with pledges about them, which are changed step by step."""

    def __init__(self, disc):
        check_disc(disc)
        self._now = Standing(disc, {tie: 1 for tie in disc.ties}, ())
        self._past = ()
        self._coming = ()

    @property
    def disc(self):
        """The disc."""
        return self._now.web

    @property
    def numbers(self):
        """The dict from the ties to their numbers."""
        return {tie: self._now.weights[tie] for tie in self._now.weights}

    @property
    def order(self):
        """The order of the disc."""
        return order_of(self._now.web)

    @property
    def point(self):
        """The point of the numbers."""
        return point_by(self._now.web, self._now.weights)

    @property
    def lines(self):
        """The lines of the disc, and one for the number of each tie."""
        return self._now.told_lines

    @property
    def pledges(self):
        """The pledges, in the order of demands."""
        return self._now.pledged

    @property
    def changes(self):
        """The number of changes that can be taken back."""
        return len(self._past)

    def move(self, move):
        """Makes a move of the disc."""
        disc = self._now.web
        return self._changed_to(moved(disc, move), numbers_behind(disc, self._now.weights, move))

    def bridge(self, index, *, ends=False, number=1):
        """Puts in a bridge with this number."""
        disc = self._now.web
        check_bridge(disc, index, ends)
        _check_at_least_one(number)
        behind = bridged(disc, index, ends=ends)
        wanting = [seat for seat in (index, index + 1) if behind.inner_end(seat) != disc.inner_end(seat)]
        return self._changed_to(behind, numbers_with_bridge(disc, self._now.weights, number, wanting))

    def put_in(self, index, colour):
        """Puts in a rim place, at which a dead end stands."""
        disc = self._now.web
        behind = with_rim_place(disc, index, colour)
        return self._changed_to(behind, by_tie({**self._now.weights, new_name(disc.ties): 1}))

    def leave_out(self, ties):
        """Leaves ties out."""
        behind = left_out(self._now.web, ties)
        return self._changed_to(behind, {tie: 1 if tie in ties else self._now.weights[tie] for tie in behind.ties})

    def put_number(self, tie, number):
        """Gives a tie another number."""
        check_tie(self._now.web, tie)
        _check_at_least_one(number)
        return self._changed_to(self._now.web, by_tie({**self._now.weights, tie: number}))

    def rescale(self, place, factor):
        """Rescales the numbers at an inner place."""
        disc = self._now.web
        return self._changed_to(disc, rescaled_by(disc, self._now.weights, place, factor))

    def rename(self, places, ties):
        """Gives all places and ties other names."""
        behind = self._now.web.renamed(places, ties)
        return self._changed_to(behind, by_tie({ties[tie]: number for tie, number in self._now.weights.items()}))

    def demand(self, pledge):
        """Adds a pledge, which all changes keep from now on."""
        if not is_pledge(pledge) or pledge in self._now.pledged:
            raise InvalidOperation("this is no pledge, or it is there already")
        if len(self._now.pledged) == MAX_PLEDGES:
            raise TooMany(MAX_PLEDGES)
        return self._pledged_to((*self._now.pledged, pledge))

    def waive(self, pledge):
        """Takes a pledge away."""
        if not is_pledge(pledge) or pledge not in self._now.pledged:
            raise InvalidOperation("there is no such pledge")
        return self._pledged_to(tuple([other for other in self._now.pledged if other != pledge]))

    def undo(self, *, many=1):
        """Takes back so many changes."""
        _check_steps(many, len(self._past))
        return self._gone_to(len(self._past) - many)

    def redo(self, *, many=1):
        """Does so many changes again that were taken back."""
        _check_steps(many, len(self._coming))
        return self._gone_to(len(self._past) + many)

    def trial(self):
        """For `with`: gives the bench, which behind the block is as it was when the block was entered."""
        return Trial(self)

    def during(self, call):
        """What the call returns for the bench in a trial."""
        with self.trial() as same:
            return call(same)

    def twin(self):
        """An independent copy of the bench."""
        other = Bench(self._now.web)
        other._now = self._now
        other._past = self._past
        other._coming = self._coming
        return other

    def __contains__(self, value):
        if isinstance(value, str):
            return value in self._now.told_lines
        return is_pledge(value) and value in self._now.pledged

    def __len__(self):
        return len(self._now.pledged)

    def __iter__(self):
        return iter(self._now.told_lines)

    def __eq__(self, other):
        return (isinstance(other, Bench) and self._now.web == other._now.web
                and self._now.weights == other._now.weights and self._now.pledged == other._now.pledged)

    def __str__(self):
        disc = self._now.web
        return f"bench of {disc.many} rim places, {len(disc)} ties, {len(self._now.pledged)} pledges"

    def _changed_to(self, disc, numbers):
        """Changes the disc and the numbers; returns the news."""
        return self._stood_at(Standing(disc, numbers, self._now.pledged))

    def _pledged_to(self, pledges):
        """Changes the pledges; returns the news."""
        return self._stood_at(Standing(self._now.web, self._now.weights, pledges))

    def _stood_at(self, standing):
        """Makes this the last change, if all pledges hold then; returns the news."""
        broken = broken_pledge(standing)
        if broken is not None:
            raise Refused(broken)
        before = self._now
        self._past = (*self._past, before)
        self._now = standing
        self._coming = ()
        return news_between(before, standing)

    def _gone_to(self, at):
        """Goes to this one of all that the bench has kept, counted from the first one; returns the news."""
        before = self._now
        row = (*self._past, before, *self._coming)
        self._past = row[:at]
        self._now = row[at]
        self._coming = row[at + 1:]
        return news_between(before, row[at])


class Trial:
    """Puts a bench back behind a block."""

    def __init__(self, bench):
        self._bench = bench
        self._now = bench._now
        self._past = bench._past
        self._coming = bench._coming

    def __enter__(self):
        self._now = self._bench._now
        self._past = self._bench._past
        self._coming = self._bench._coming
        return self._bench

    def __exit__(self, kind, value, trace):
        self._bench._now = self._now
        self._bench._past = self._past
        self._bench._coming = self._coming


def _is_at_least_one(value):
    """Whether the value is an integer of at least 1."""
    return is_integer(value) and value >= 1


def _check_at_least_one(number):
    """Raises the error for what is no integer of at least 1."""
    if not _is_at_least_one(number):
        raise InvalidNumber(number)


def _check_steps(many, most):
    """Raises the error for what is no number of changes, or for more than there are."""
    if not is_count(many):
        raise InvalidNumber(many)
    if many > most:
        raise NothingToUndo(many)
