"""Patterns of cloths that go on for ever: grounds, first forms, keepers, motions between them, and strands alike."""

from loomhold.cloths import Cloth, is_strand, strands
from loomhold.kinds import is_number_below, is_paper
from loomhold.motions import TURNS, is_motion, led_strand, moved
from loomhold.periods import periods_of, shifted, shifted_rows, turned_rows


def ground(cloth):
    """The cloth of the first picks and ends that the pattern repeats."""
    down, across = periods_of(cloth)
    return Cloth(tuple([pick[:across] for pick in cloth.picks[:down]]))


def do_show_one(cloth, other):
    """Tell whether two cloths show one pattern."""
    return ground(cloth) == ground(other)


def first_form(cloth):
    """The first of the grounds of all patterns that are alike."""
    own = list(ground(cloth).picks)
    forms = [(len(rows), shifted_rows(rows, down, across))
             for rows in [turned_rows(own, turn) for turn in TURNS]
             for down in range(len(rows)) for across in range(len(rows[0]))]
    return Cloth(min(forms)[1])


def keeps(cloth, motion):
    """Tell whether a motion keeps the pattern of a cloth."""
    return does_move_to(cloth, motion, cloth)


def does_move_to(cloth, motion, other):
    """Tell whether a motion leads the pattern of a cloth to that of another one."""
    return do_show_one(moved(ground(cloth), motion), other)


def motions_between(cloth, other):
    """The ascending list of the motions below the other one's periods that lead one pattern to the other one."""
    own = list(ground(cloth).picks)
    goal = list(ground(other).picks)
    return [(turn, down, across) for turn in TURNS for down, across in moves_between(turned_rows(own, turn), goal)]


def moves_between(rows, goal):
    """The ascending list of the pairs (down, across), below their size, that move rows to a goal."""
    across_rows = [[shifted(row, across) for row in rows] for across in range(len(rows[0]))]
    return [(down, across) for down in range(len(rows)) for across, here in enumerate(across_rows)
            if shifted(here, down) == goal]


def keepers(cloth):
    """The ascending tuple of all keepers."""
    return tuple(motions_between(cloth, cloth))


def motion_to(cloth, other):
    """The first motion that leads the pattern of a cloth to that of another one, None if there is none."""
    found = motions_between(cloth, other)
    return found[0] if found else None


def judge_same(cloth, other):
    """A paper that two patterns are alike, or not."""
    motion = motion_to(cloth, other)
    if motion is None:
        return ("unlike", first_form(cloth).picks, first_form(other).picks)
    return ("same", motion)


def same_holds(cloth, other, thing):
    """Tell whether any value is a paper "same" or "unlike" for two cloths."""
    if is_paper(thing, "same", 2):
        return is_motion(thing[1]) and does_move_to(cloth, thing[1], other)
    if not is_paper(thing, "unlike", 3):
        return False
    forms = (first_form(cloth).picks, first_form(other).picks)
    return thing[1:] == forms and forms[0] != forms[1]


def strand_classes(cloth):
    """The ascending tuple of all classes of strands that are alike."""
    own = ground(cloth)
    motions = keepers(own)
    classes = []
    seen = {}
    for strand in strands(own):
        if strand not in seen:
            found = sorted({led_strand((len(own), own.ends), motion, strand) for motion in motions})
            classes.append(tuple(found))
            seen = {**seen, **{other: True for other in found}}
    return tuple(classes)


def judge_strands(cloth):
    """A paper that all strands are alike, or of two that are not."""
    own = ground(cloth)
    first = ("end", 0)
    found = {}
    for motion in keepers(own):
        found.setdefault(led_strand((len(own), own.ends), motion, first), motion)
    missing = [strand for strand in strands(own) if strand not in found]
    if missing:
        return ("unlike", first, missing[0])
    return ("alike", tuple([found[strand] for strand in strands(own)]))


def strands_hold(cloth, thing):
    """Tell whether any value is a paper "alike" or "unlike" of the strands of a cloth."""
    own = ground(cloth)
    if is_paper(thing, "alike", 2):
        return isinstance(thing[1], tuple) and do_lead_to_all(own, thing[1])
    if not is_paper(thing, "unlike", 3) or not is_strand(own, thing[1]) or not is_strand(own, thing[2]):
        return False
    return not any([thing[1] in row and thing[2] in row for row in strand_classes(own)])


def do_lead_to_all(own, row):
    """Tell whether any tuple has, for each strand of a ground, in order, a keeper that leads the end 0 to it."""
    if not all([is_keeper(own, item) for item in row]):
        return False
    return [led_strand((len(own), own.ends), motion, ("end", 0)) for motion in row] == list(strands(own))


def is_keeper(own, thing):
    """Tell whether any value is a keeper of a ground."""
    if not is_motion(thing) or not is_number_below(thing[1], len(own)) or not is_number_below(thing[2], own.ends):
        return False
    return keeps(own, thing)


def are_all_alike(cloth):
    """Tell whether all strands of a pattern are alike."""
    return len(strand_classes(cloth)) == 1
