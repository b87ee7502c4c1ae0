"""Which ties the pairings of a disc can do without."""

from rimtrails.base.matchings import lack_among
from rimtrails.pair.pairings import pairing_with
from rimtrails.pair.turns import ends_by_name, leaning_with, turned_over, turned_with, white_ends


def do_pair_without(disc, ties):
    """Whether some pairing of the disc uses none of the ties."""
    ends = ends_by_name(disc)
    for rounds in (disc.black, disc.white):
        left = {place: [tie for tie in rounds[place] if tie not in ties] for place in rounds}
        if len(lack_among(left, ends)) > 0:
            return False
    return True


def needed_among(disc, chosen, ties):
    """Those of the ties that each pairing with this let set uses."""
    pairing = pairing_with(disc, chosen)
    ends = ends_by_name(disc)
    leaning = leaning_with(disc, pairing)
    # Pairings with one set are those to which rings lead, and no ring has a tie of the rim.
    inner = [tie for tie in disc.ties if tie not in disc.rim]
    return tuple([tie for tie in ties if tie in pairing and len(turned_with(tie, inner, ends, leaning)) == 0])


def ties_to_spare(disc, sets):
    """Ties without which these let sets are still let, ascending; no further tie can be left out so."""
    ends = ends_by_name(disc)
    leanings = [leaning_with(disc, pairing_with(disc, chosen)) for chosen in sets]
    spare = []
    for tie in disc.ties:
        others = [other for other in disc.ties if other not in disc.rim and other != tie and other not in spare]
        turned = _all_without(tie, others, ends, white_ends(disc), leanings)
        # What cannot be spared cannot be spared later either, when there are fewer ties.
        if len(turned) == len(leanings):
            spare.append(tie)
            leanings = turned
    return tuple(spare)


def _all_without(tie, others, ends, whites, leanings):
    """The leanings, with rings of the other ties turned over so that no pairing uses the tie.

    The list ends before the first leaning with which this cannot be done.
    """
    found = []
    for leaning in leanings:
        turned = []
        if leaning[tie] == whites[tie]:
            turned = turned_with(tie, others, ends, leaning)
            if len(turned) == 0:
                break
        found.append(turned_over(ends, leaning, turned))
    return found
