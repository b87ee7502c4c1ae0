"""Which ties the pairings of a disc can do without."""

from rimtrails.base.matchings import lack_among
from rimtrails.pair.pairings import pairing_with
from rimtrails.pair.turns import ends_by_name, leaning_with, turned_with


def do_pair_without(disc, ties):
    """Whether some pairing of the disc uses none of the ties."""
    ends = ends_by_name(disc)
    for rounds in (disc.black, disc.white):
        left = {place: [tie for tie in rounds[place] if tie not in ties] for place in rounds}
        if len(lack_among(left, ends)) > 0:
            return False
    return True


def needed_among(disc, chosen, ties):
    """Those of the ties that each pairing with this let set uses."""
    pairing = pairing_with(disc, chosen)
    ends = ends_by_name(disc)
    leaning = leaning_with(disc, pairing)
    # Pairings with one set are those to which rings lead, and no ring has a tie of the rim.
    inner = [tie for tie in disc.ties if tie not in disc.rim]
    return tuple([tie for tie in ties if tie in pairing and len(turned_with(tie, inner, ends, leaning)) == 0])
