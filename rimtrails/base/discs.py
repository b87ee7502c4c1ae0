"""Discs: a rim, and a web of black and white places that is drawn in it."""

from rimtrails.base.matchings import lack_among
from rimtrails.base.shapes import names_by_shape
from rimtrails.base.webs import are_ends, are_rounds, count_walks, do_all_reach_rim, ends_by_tie, from_least
from rimtrails.base.webs import steps_behind
from rimtrails.base.words import are_names, is_integer, is_naming
from rimtrails.errors import InvalidDisc, InvalidNumber, InvalidOperation, ParseError, UnknownName

MAX_RIM = 8
MAX_TIES = 60


def is_drawn(rim, black, white):
    """Whether the three values fulfil all of [2.1] but rule 5."""
    if not are_names(rim) or not 1 <= len(rim) <= MAX_RIM:
        return False
    if not are_rounds(black) or not are_rounds(white):
        return False
    rounds = {**black, **white}
    ends = ends_by_tie(rim, black, white)
    if len(rounds) < len(black) + len(white) or len(ends) > MAX_TIES:
        return False
    if not all([are_ends(pair, black, white) for pair in ends.values()]):
        return False
    regions = len(ends) - len(rounds) + 1
    return do_all_reach_rim(rim, rounds, ends) and count_walks(steps_behind(rim, rounds, ends)) == regions


def _told_by(line):
    """The word, the place and the ties of a line; the place is "" behind `rim`. None if it is no line."""
    if not isinstance(line, str):
        return None
    names = tuple(line.split(" "))
    if not are_names(names):
        return None
    if names[0] == "rim" and len(names) >= 2:
        return "rim", "", names[1:]
    if names[0] in ("black", "white") and len(names) >= 3:
        return names[0], names[1], names[2:]
    return None


def _renamed_rounds(rounds, places, ties):
    """The rounds with other names for their places and ties, told from the least new name on."""
    return {places[place]: from_least(tuple([ties[tie] for tie in rounds[place]])) for place in rounds}


class Disc:
    """A disc [2.1]. It never changes."""

    def __init__(self, rim, black, white):
        if not is_drawn(rim, black, white):
            raise InvalidDisc("this rim and these rounds are not drawn in a disc")
        rounds = {**black, **white}
        ends = ends_by_tie(rim, black, white)
        if len(lack_among(black, ends)) > 0 or len(lack_among(white, ends)) > 0:
            raise InvalidDisc("there is no pairing")
        self._rim = rim
        self._places = tuple(sorted(rounds))
        self._ties = tuple(sorted(ends))
        self._black = {place: black[place] for place in sorted(black)}
        self._white = {place: white[place] for place in sorted(white)}
        self._rounds = {place: rounds[place] for place in self._places}
        self._ends = {tie: ends[tie] for tie in self._ties}

    @classmethod
    def from_lines(cls, *lines):
        """The disc that the lines tell, in any order."""
        rim = None
        black = {}
        white = {}
        seen = {}
        for index, line in enumerate(lines):
            told = _told_by(line)
            if told is None or told[1] in seen:
                raise ParseError(index)
            word, place, ties = told
            seen[place] = True
            if word == "rim":
                rim = ties
            elif word == "black":
                black[place] = from_least(ties)
            else:
                white[place] = from_least(ties)
        return cls(rim, black, white)

    @property
    def rim(self):
        """The tuple of the ties of the rim."""
        return self._rim

    @property
    def black(self):
        """The dict from the black places to their rounds."""
        return {place: self._black[place] for place in self._black}

    @property
    def white(self):
        """The dict from the white places to their rounds."""
        return {place: self._white[place] for place in self._white}

    @property
    def places(self):
        """The ascending tuple of the inner places."""
        return self._places

    @property
    def ties(self):
        """The ascending tuple of all ties."""
        return self._ties

    @property
    def many(self):
        """The number of rim places."""
        return len(self._rim)

    @property
    def level(self):
        """The number of places in each set of the disc [2.2]."""
        at_black = [tie for tie in self._rim if self._ends[tie][1] in self._black]
        return len(at_black) + len(self._white) - len(self._black)

    @property
    def regions(self):
        """The number of regions [2.2]."""
        return len(self._ties) - len(self._places) + 1

    @property
    def lines(self):
        """The line of the rim, then those of the places, ascending."""
        rows = [" ".join(["rim", *self._rim])]
        for place in self._places:
            rows.append(" ".join([self.colour(place), place, *self._rounds[place]]))
        return tuple(rows)

    @property
    def named_anew(self):
        """The disc with names that hang on its shape alone."""
        places, ties = names_by_shape(self._rim, self._rounds, self._ends)
        return self.renamed(places, ties)

    def colour(self, place):
        """The colour of an inner place."""
        self._check_place(place)
        return "black" if place in self._black else "white"

    def round_of(self, place):
        """The round of an inner place."""
        self._check_place(place)
        return self._rounds[place]

    def ends_of(self, tie):
        """The rim place and the inner place, or the black and the white place, that the tie joins."""
        if tie not in self:
            raise UnknownName(tie)
        return self._ends[tie]

    def inner_end(self, index):
        """The inner end of the tie at a rim place."""
        if not is_integer(index) or not 1 <= index <= len(self._rim):
            raise InvalidNumber(index)
        return self._ends[self._rim[index - 1]][1]

    def renamed(self, places, ties):
        """The disc with other names for all its places and ties."""
        if not is_naming(self._places, places):
            raise InvalidOperation("the places are not renamed by this")
        if not is_naming(self._ties, ties):
            raise InvalidOperation("the ties are not renamed by this")
        rim = tuple([ties[tie] for tie in self._rim])
        black = _renamed_rounds(self._black, places, ties)
        return Disc(rim, black, _renamed_rounds(self._white, places, ties))

    def _check_place(self, place):
        """Raises the error for what is no inner place."""
        if not isinstance(place, str) or place not in self._rounds:
            raise UnknownName(place)

    def __contains__(self, value):
        return isinstance(value, str) and value in self._ends

    def __len__(self):
        return len(self._ties)

    def __iter__(self):
        return iter(self._ties)

    def __eq__(self, other):
        return (isinstance(other, Disc) and self._rim == other._rim
                and self._black == other._black and self._white == other._white)

    def __str__(self):
        return f"disc of {len(self._rim)} rim places, {len(self._places)} places, {len(self._ties)} ties"


def are_same(one, other):
    """Whether two discs are equal but for the names of places and ties."""
    if not isinstance(one, Disc) or not isinstance(other, Disc):
        raise InvalidDisc("there are no two discs to be compared")
    return one.named_anew == other.named_anew
