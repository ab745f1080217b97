"""Whether a cloth holds, its levels, and the papers of holding."""

from loomhold.cloths import is_over, is_strand, led_masks, strands
from loomhold.kinds import is_ascending, is_paper
from loomhold.reaching import way_to


def does_hold(cloth):
    """Tell whether each strand leads to each other one."""
    return len(levels_of(cloth)) == 1


def levels_of(cloth):
    """The tuple of the levels, from the top down.

    A strand leads to all strands of lower levels, and to its own level just if that is a part with ends and picks.
    So what it leads to, and whether this has the strand itself, tells its level; of two levels that lead to the
    same strands the upper one is the one that does not lead to itself.
    """
    marks = [(-mask, mask >> place & 1) for place, mask in enumerate(led_masks(cloth))]
    row = strands(cloth)
    return tuple([tuple([strand for strand, mark in zip(row, marks) if mark == level])
                  for level in sorted(set(marks))])


def level_of(cloth, strand):
    """The number of the level of a strand, 0 for the top one."""
    return [strand in level for level in levels_of(cloth)].index(True)


def judge_holding(cloth):
    """A paper that the cloth holds, or that it can be taken apart."""
    levels = levels_of(cloth)
    if len(levels) > 1:
        return ("apart", levels[0])
    return ("holds", ring_of(cloth))


def ring_of(cloth):
    """A ring on which all strands stand, of a cloth that holds."""
    row = strands(cloth)
    under = {one: [other for other in row if is_over(cloth, one, other)] for one in row}
    ring = [row[0]]
    missing = {strand: True for strand in row[1:]}
    while missing:
        way = way_to(under, ring[-1], missing)
        missing = {strand: True for strand in missing if strand not in way}
        ring.extend(way)
    return tuple([*ring, *way_to(under, ring[-1], {row[0]: True})[:-1]])


def holding_holds(cloth, thing):
    """Tell whether any value is a paper of holding of the cloth."""
    if not is_paper(thing, "holds", 2) and not is_paper(thing, "apart", 2):
        return False
    if not isinstance(thing[1], tuple) or not all([is_strand(cloth, item) for item in thing[1]]):
        return False
    if thing[0] == "holds":
        return is_ring(cloth, thing[1])
    return is_lot(cloth, thing[1])


def is_ring(cloth, row):
    """Tell whether a tuple of strands is a ring on which all strands stand."""
    if set(row) != set(strands(cloth)):
        return False
    return all([is_over(cloth, one, other) for one, other in zip(row, (*row[1:], row[0]))])


def is_lot(cloth, row):
    """Tell whether a tuple of strands is ascending, with some, not all, and none outside over one of them."""
    if row == () or not is_ascending(row):
        return False
    outside = [strand for strand in strands(cloth) if strand not in row]
    if outside == []:
        return False
    return not any([is_over(cloth, one, other) for one in outside for other in row])
