"""Mends: crossings that are turned so that a cloth holds, as few as can be, and the papers that show it."""

from loomhold.cloths import is_crossing, is_over, is_strand, strands, turned_at
from loomhold.kinds import is_ascending, is_paper
from loomhold.levels import does_hold, levels_of


def is_crossings(cloth, thing):
    """Tell whether any value is an ascending tuple of crossings of the cloth."""
    return isinstance(thing, tuple) and all([is_crossing(cloth, item) for item in thing]) and is_ascending(thing)


def is_mend(cloth, thing):
    """Tell whether any value is a mend."""
    return is_crossings(cloth, thing) and does_hold(turned_at(cloth, thing))


def has_mend(cloth):
    """Tell whether a cloth has a mend."""
    return len(cloth) > 1 and cloth.ends > 1


def parts_of_level(level):
    """The list of the parts of a level: one with ends and picks, or its single strands."""
    return [level] if len({strand[0] for strand in level}) > 1 else [(strand,) for strand in level]


def strands_between(top, bottom):
    """A strand for each part at the top and at the bottom level, such that those of both cross.

    They are a pair of lists; None if no strand at the top crosses one at the bottom.
    """
    for sort, other in (("end", "pick"), ("pick", "end")):
        highest = [strand for strand in top if strand[0] == sort]
        lowest = [strand for strand in bottom if strand[0] == other]
        if highest and lowest:
            return highest[:len(parts_of_level(top))], lowest[:len(parts_of_level(bottom))]
    return None


def crossing_of(one, other):
    """The crossing (number of a pick, number of an end) of two strands that cross."""
    return (one[1], other[1]) if one[0] == "pick" else (other[1], one[1])


def turns_between(top, bottom):
    """The list of the crossings to be turned where the top and the bottom level of a cloth are two."""
    pair = strands_between(top, bottom)
    if pair is None:
        # All of these are of one sort: the strand 0 of the other one comes to lie over what is on the top, and below
        # what is at the bottom.
        through = ("pick" if top[0][0] == "end" else "end", 0)
        return [crossing_of(through, strand) for strand in (*top, *bottom)]
    highest, lowest = pair
    return [crossing_of(highest[k % len(highest)], lowest[k % len(lowest)])
            for k in range(max(len(highest), len(lowest)))]


def fewest_turns(cloth):
    """The number of crossings of a fewest mend, None if there is no mend."""
    found = mend(cloth)
    return None if found is None else len(found)


def mend(cloth):
    """A fewest mend, None if there is no mend."""
    if not has_mend(cloth):
        return None
    levels = levels_of(cloth)
    return () if len(levels) == 1 else tuple(sorted(turns_between(levels[0], levels[-1])))


def mended(cloth):
    """A cloth that holds, with as few crossings unlike as can be; None if there is none."""
    found = mend(cloth)
    return None if found is None else turned_at(cloth, found)


def is_free_lot(cloth, thing):
    """Tell whether any value is a free lot."""
    if not isinstance(thing, tuple) or not all([is_strand(cloth, item) for item in thing]) or not is_ascending(thing):
        return False
    outside = [strand for strand in strands(cloth) if strand not in thing]
    # With one strand or more in the lot, and outside, some of both cross: so there is one way at least.
    ways = [is_over(cloth, one, other) for one in thing for other in outside if one[0] != other[0]]
    return len(set(ways)) == 1


def border(cloth, lot):
    """The ascending tuple of the crossings of a free lot's border."""
    outside = [strand for strand in strands(cloth) if strand not in lot]
    return tuple(sorted([crossing_of(one, other) for one in lot for other in outside if one[0] != other[0]]))


def lots_of(cloth):
    """The free lots that show a fewest mend of a cloth that has mends."""
    levels = levels_of(cloth)
    if len(levels) == 1:
        return ()
    highest = parts_of_level(levels[0])
    lowest = parts_of_level(levels[-1])
    if strands_between(levels[0], levels[-1]) is None:
        return (*highest, *lowest)
    return tuple(highest if len(highest) >= len(lowest) else lowest)


def judge_mend(cloth):
    """A paper of a fewest mend, None if the cloth has no mend."""
    found = mend(cloth)
    return None if found is None else ("mend", found, lots_of(cloth))


def mend_holds(cloth, thing):
    """Tell whether any value is a paper of a fewest mend."""
    if not is_paper(thing, "mend", 3) or not is_mend(cloth, thing[1]):
        return False
    if not isinstance(thing[2], tuple) or len(thing[2]) != len(thing[1]):
        return False
    if not all([is_free_lot(cloth, lot) for lot in thing[2]]):
        return False
    crossings = [crossing for lot in thing[2] for crossing in border(cloth, lot)]
    return len(set(crossings)) == len(crossings)
