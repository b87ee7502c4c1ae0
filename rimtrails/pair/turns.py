"""What a leaning [5.1] is to a pairing, what can be turned over along it, and which ties of the rim a set uses."""

from rimtrails.base.webs import other_end


def ends_by_name(disc):
    """The dict from the ties of the disc to the pairs of their ends."""
    return {tie: disc.ends_of(tie) for tie in disc.ties}


def white_ends(disc):
    """The dict from the ties to their white ends; a rim place has the colour that its inner end has not [5.2]."""
    white = disc.white
    ends = {}
    for tie in disc.ties:
        first, last = disc.ends_of(tie)
        ends[tie] = last if last in white else first
    return ends


def used_places(disc, chosen):
    """The list of the rim places whose ties are used by the tuple of rim places [4.2]."""
    white = disc.white
    return [at + 1 for at in range(disc.many) if (at + 1 in chosen) == (disc.inner_end(at + 1) in white)]


def leaning_with(disc, pairing):
    """The leaning that belongs to the pairing."""
    leaning = white_ends(disc)
    for tie in disc.ties:
        if tie not in pairing:
            leaning[tie] = other_end(disc.ends_of(tie), leaning[tie])
    return leaning


def ties_to_white(disc, leaning):
    """The ascending tuple of the ties that lean to their white ends: the pairing that belongs to a leaning."""
    whites = white_ends(disc)
    return tuple([tie for tie in disc.ties if leaning[tie] == whites[tie]])


def turned_over(ends, leaning, ties):
    """The leaning with these ties turned to their other ends."""
    other = {tie: leaning[tie] for tie in leaning}
    for tie in ties:
        other[tie] = other_end(ends[tie], leaning[tie])
    return other


def _corner(end):
    """The end of a tie; all rim places are one corner, as who comes to one can go on from another."""
    return "" if isinstance(end, int) else end


def turned_with(tie, others, ends, leaning):
    """The ties of a way or a ring along the leaning through the tie and some of the others; [] if there is none."""
    leaving = {}
    for other in others:
        leaving.setdefault(_corner(other_end(ends[other], leaning[other])), []).append(other)
    start = _corner(leaning[tie])
    goal = _corner(other_end(ends[tie], leaning[tie]))
    came = {start: tie}
    waiting = [start]
    while len(waiting) > 0 and goal not in came:
        reached = waiting.pop()
        for other in leaving.get(reached, []):
            corner = _corner(leaning[other])
            if corner not in came:
                came[corner] = other
                waiting.append(corner)
    if goal not in came:
        return []
    turned = [came[goal]]
    while turned[-1] != tie:
        turned.append(came[_corner(other_end(ends[turned[-1]], leaning[turned[-1]]))])
    return turned
