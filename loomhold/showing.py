"""Cloths that show a picture with stripes, and whether one of them holds."""

from loomhold.cloths import Cloth, is_strand, strands
from loomhold.kinds import is_ascending, is_paper
from loomhold.levels import does_hold
from loomhold.pictures import EITHER, crossings_of, does_show, first_unshown
from loomhold.reaching import closed
from loomhold.stripes import check_shown

FREE = "."


def signs_by(picture, stripes):
    """The rows of the signs that all cloths have that show the picture, FREE at free crossings; NotShown, too."""
    check_shown(picture, stripes)
    ends, picks = stripes
    return [[sign_by(sign, end, pick) for sign, end in zip(row, ends)] for row, pick in zip(picture.rows, picks)]


def sign_by(sign, end, pick):
    """The sign at a crossing of an end and a pick of some colours, where the picture has a sign."""
    if sign == EITHER or end == pick:
        return FREE
    return "x" if end == sign else "-"


def free_crossings(picture, stripes):
    """The ascending tuple of the free crossings."""
    signs = signs_by(picture, stripes)
    return tuple([(pick, end) for pick, end in crossings_of(picture) if signs[pick][end] == FREE])


def cloth_of(signs):
    """The cloth of rows of signs, the end above at free crossings."""
    return Cloth(tuple(["".join(row).replace(FREE, "x") for row in signs]))


def cloth_by(picture, stripes):
    """A cloth that shows the picture with the stripes."""
    return cloth_of(signs_by(picture, stripes))


def may_lie_over(signs, one, other):
    """Tell whether one strand may lie over another one."""
    if one[0] == other[0]:
        return False
    if one[0] == "end":
        return signs[other[1]][one[1]] != "-"
    return signs[one[1]][other[1]] != "x"


def may_lead(row, signs):
    """For each strand, in order, the set of those to which rows of strands lead each of which may lie over the next."""
    return closed([sum([1 << place for place, other in enumerate(row) if may_lie_over(signs, one, other)])
                   for one in row])


def is_one(leads):
    """Tell whether each strand leads to each one."""
    return all([mask + 1 == 1 << len(leads) for mask in leads])


def can_hold(picture, stripes):
    """Tell whether some cloth that shows the picture with the stripes holds."""
    return is_one(may_lead(strands(picture), signs_by(picture, stripes)))


def judge_showing(picture, stripes):
    """A paper of a cloth that shows the picture and holds, or of a lot that lies apart whatever is chosen."""
    signs = signs_by(picture, stripes)
    row = strands(picture)
    leads = may_lead(row, signs)
    if is_one(leads):
        return ("holds", cloth_of(settled(row, signs)))
    return ("apart", lot_of(row, leads))


def settled(row, signs):
    """Rows of signs with a sign at each free crossing, such that each strand still leads to each one.

    One of both signs always keeps this, as no crossing is the only one between two lots of strands (Boesch, Tindell).
    """
    rows = [list(line) for line in signs]
    for pick, line in enumerate(signs):
        for end, sign in enumerate(line):
            if sign == FREE:
                rows[pick][end] = "x"
                if not is_one(may_lead(row, rows)):
                    rows[pick][end] = "-"
    return rows


def lot_of(row, leads):
    """The strands that lead to one, with this one, for the first one to which not all others do."""
    lots = [[other for place, other in enumerate(row) if place == number or leads[place] >> number & 1]
            for number in range(len(row))]
    return tuple([lot for lot in lots if len(lot) < len(row)][0])


def showing_holds(picture, stripes, thing):
    """Tell whether any value is a paper "holds" or "apart"."""
    if first_unshown(picture, stripes) is not None:
        return False
    if is_paper(thing, "holds", 2):
        return isinstance(thing[1], Cloth) and is_shown_and_held(picture, stripes, thing[1])
    return is_paper(thing, "apart", 2) and is_apart(picture, stripes, thing[1])


def is_shown_and_held(picture, stripes, cloth):
    """Tell whether a cloth of any size shows the picture with the stripes and holds."""
    if cloth.ends != picture.ends or len(cloth) != len(picture):
        return False
    return does_show(picture, cloth, stripes) and does_hold(cloth)


def is_apart(picture, stripes, thing):
    """Tell whether any value is a lot of some strands, not all, over which none outside may lie."""
    if not isinstance(thing, tuple) or not all([is_strand(picture, item) for item in thing]):
        return False
    signs = signs_by(picture, stripes)
    outside = [strand for strand in strands(picture) if strand not in thing]
    if thing == () or outside == [] or not is_ascending(thing):
        return False
    return not any([may_lie_over(signs, one, other) for one in outside for other in thing])
