"""Which colours of strands follow from others, and papers of stripes."""

from loomhold.cloths import is_strand
from loomhold.colouring import (
    clashing, coloured_strands, does_reach, least_colouring, leadings, made_by, makings, stripes_of)
from loomhold.errors import Clash
from loomhold.kinds import is_paper
from loomhold.pictures import are_stripes, do_keep, first_unshown, is_colour, other_colour
from loomhold.reaching import way_to


def does_make(picture, one, other, *, terms=()):
    """Tell whether a coloured strand makes another one."""
    return other in made_by(picture, terms, one)


def judge_stripes(picture, *, terms=()):
    """A paper "shown", with the least stripes, or "clash"."""
    leads = leadings(picture, terms)
    clashes = clashing(leads)
    if clashes == []:
        return ("shown", stripes_of(picture, least_colouring(leads)))
    one = coloured_strands(picture)[clashes[0]]
    made = makings(picture, terms)
    return ("clash", (*walk_over(made, one), *walk_over(made, opposite_of(one))))


def walk_over(made, one):
    """A walk from a coloured strand to its strand in the other colour, which is left out."""
    return [one, *way_to(made, one, [opposite_of(one)])[:-1]]


def opposite_of(one):
    """The strand of a coloured strand, in the other colour."""
    return (one[0], other_colour(one[1]))


def stripes_hold(picture, thing, *, terms=()):
    """Tell whether any value is a paper "shown" or "clash"."""
    if is_paper(thing, "shown", 2):
        return (are_stripes(picture, thing[1]) and first_unshown(picture, thing[1]) is None
                and do_keep(picture, thing[1], terms))
    if not is_paper(thing, "clash", 2) or not is_walk(picture, thing[1], terms):
        return False
    ring = thing[1]
    return is_step(makings(picture, terms), ring[-1], ring[0]) and len(set(ring)) > len({one[0] for one in ring})


def is_walk(picture, thing, terms):
    """Tell whether any value is a tuple of one or more coloured strands each of which makes the next one."""
    if not isinstance(thing, tuple) or thing == () or not all([is_coloured_strand(picture, one) for one in thing]):
        return False
    made = makings(picture, terms)
    return all([is_step(made, one, other) for one, other in zip(thing, thing[1:])])


def is_step(made, one, other):
    """Tell whether a coloured strand makes another one, where made tells what each of them makes."""
    return other in made[one]


def is_coloured_strand(picture, thing):
    """Tell whether any value is a coloured strand of the picture."""
    if not isinstance(thing, tuple) or len(thing) != 2:
        return False
    return is_strand(picture, thing[0]) and is_colour(thing[1])


def check_clash(picture, terms):
    """Raise Clash if no stripes show the picture and keep the terms."""
    paper = judge_stripes(picture, terms=terms)
    if paper[0] == "clash":
        raise Clash(paper)


def forced(picture, *, terms=()):
    """The ascending tuple of all coloured strands that are forced."""
    check_clash(picture, terms)
    leads = leadings(picture, terms)
    return tuple([one for k, one in enumerate(coloured_strands(picture)) if does_reach(leads, k ^ 1, k)])


def why_forced(picture, strand, *, terms=()):
    """A paper "forced" of a strand, None if it is forced with neither colour."""
    made = makings(picture, terms)
    for one in forced(picture, terms=terms):
        if one[0] == strand:
            return ("forced", (*walk_over(made, opposite_of(one)), one))
    return None


def forced_holds(picture, thing, *, terms=()):
    """Tell whether any value is a paper "forced"."""
    if not is_paper(thing, "forced", 2) or not is_walk(picture, thing[1], terms):
        return False
    return thing[1][0] == opposite_of(thing[1][-1])
