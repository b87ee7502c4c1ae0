"""Names of places and ties that hang on the shape of a disc alone."""

from rimtrails.base.webs import other_end
from rimtrails.base.words import nth_name


def ties_behind(ties, tie):
    """The ties of a round, from the one behind the told tie on; this one comes last."""
    at = ties.index(tie) + 1
    return ties[at:] + ties[:at]


def names_by_shape(rim, rounds, ends):
    """The dicts from the places, and from the ties, to their names in `named_anew`."""
    ties = {}
    for tie in rim:
        ties[tie] = nth_name(len(ties))
    met_by = {}
    for tie in rim:
        met_by.setdefault(ends[tie][1], tie)
    met = list(met_by)
    places = {}
    while len(places) < len(met):
        place = met[len(places)]
        places[place] = nth_name(len(places))
        came = met_by[place]
        for tie in ties_behind(rounds[place], came):
            if tie not in ties:
                ties[tie] = nth_name(len(ties))
                other = other_end(ends[tie], place)
                if other not in met_by:
                    met_by[other] = tie
                    met.append(other)
    return places, ties
