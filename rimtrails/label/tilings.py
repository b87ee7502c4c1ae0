"""The short thin disc whose labels are a collection."""

from rimtrails.base.discs import Disc
from rimtrails.base.webs import from_least
from rimtrails.base.words import nth_name
from rimtrails.order.necklaces import necklace_of


def disc_with_labels(order, collection):
    """The short thin disc with this order whose labels are the collection, as `named_anew`.

    Around a white place the labels differ by the one of their rim places that is not in the others, around a
    black one by the one that they have not; clockwise these rim places ascend. Three labels or more that are
    alike but for this are those around one place. A tie is told by its seat: by the labels on both its sides.
    """
    rounds = {"white": _seats_round(_alike_within(collection)),
              "black": _seats_round(_alike_without(order.many, collection))}
    rim = _rim_seats(necklace_of(order), rounds)
    names = {}
    for ties in [rim, *rounds["white"], *rounds["black"]]:
        for seat in ties:
            names.setdefault(seat, nth_name(len(names)))
    told = {"white": {}, "black": {}}
    for colour in rounds:
        for ties in rounds[colour]:
            name = nth_name(len(told["white"]) + len(told["black"]))
            told[colour][name] = from_least(tuple([names[seat] for seat in ties]))
    return Disc(tuple([names[seat] for seat in rim]), told["black"], told["white"]).named_anew


def _alike_within(collection):
    """The dict from sets to dicts: from each rim place with which this is one of the labels to this label."""
    alike = {}
    for label in collection:
        for place in label:
            by_place = alike.setdefault(tuple([other for other in label if other != place]), {})
            by_place[place] = label
    return alike


def _alike_without(many, collection):
    """The dict from sets to dicts: from each rim place without which this is one of the labels to this label."""
    alike = {}
    for label in collection:
        for place in range(1, many + 1):
            if place not in label:
                by_place = alike.setdefault(tuple(sorted([*label, place])), {})
                by_place[place] = label
    return alike


def _seats_round(alike):
    """The list of the rounds, told by seats, of the places around which there are three labels or more."""
    rounds = []
    for by_place in alike.values():
        labels = [by_place[place] for place in sorted(list(by_place))]
        if len(labels) >= 3:
            rounds.append([_seat(labels[at - 1], labels[at]) for at in range(len(labels))])
    return rounds


def _seat(one, other):
    """The seat of a tie between regions with these labels."""
    return tuple(sorted([one, other]))


def _rim_seats(necklace, rounds):
    """The list of the seats of the ties at the rim; the rounds that these ties have alone are added.

    Ties at dead ends, and those from rim place to rim place, have seats of their own.
    """
    seats = [seat for colour in rounds for ties in rounds[colour] for seat in ties]
    rim = []
    lines = {}
    for index in range(1, len(necklace) + 1):
        seat = _seat(necklace[index - 1], necklace[index % len(necklace)])
        rim.append(seat if seat in seats else (index,))
        if seat[0] == seat[1]:
            rounds["white" if index in seat[0] else "black"].append([(index,)])
        elif seat not in seats:
            lines.setdefault(seat, []).append((index,))
    rounds["black"].extend(list(lines.values()))
    return rim
