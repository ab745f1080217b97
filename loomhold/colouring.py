"""What the colours of strands bring with them, as sets: bit k tells of the coloured strand k, in order.

The coloured strands of one strand stand side by side, so the other one of the number k is k ^ 1.
"""

from loomhold.cloths import strands
from loomhold.pictures import COLOURS, other_colour
from loomhold.reaching import closed


def coloured_strands(picture):
    """The ascending list of all coloured strands."""
    return [(strand, colour) for strand in strands(picture) for colour in COLOURS]


def sign_at(picture, one, other):
    """The sign of the picture where two strands cross, "" if they do not."""
    if one[0] == other[0]:
        return ""
    return picture.rows[other[1]][one[1]] if one[0] == "end" else picture.rows[one[1]][other[1]]


def made_by(picture, terms, one):
    """The list of the coloured strands that a coloured strand makes."""
    strand, colour = one
    opposite = other_colour(colour)
    made = [(other, opposite) for other in strands(picture) if sign_at(picture, strand, other) == opposite]
    for term in terms:
        if term == ("colour", strand, opposite):
            made.append((strand, opposite))
        elif term[0] != "colour" and strand in term[1:]:
            other = term[2] if strand == term[1] else term[1]
            made.append((other, colour if term[0] == "alike" else opposite))
    return made


def makings(picture, terms):
    """For each coloured strand the list of those that it makes."""
    return {one: made_by(picture, terms, one) for one in coloured_strands(picture)}


def leadings(picture, terms):
    """For each coloured strand, in order, the set of those to which walks of two or more lead from it."""
    made = makings(picture, terms)
    row = list(made)
    numbers = {one: number for number, one in enumerate(row)}
    return closed([sum([1 << number for number in sorted({numbers[other] for other in made[one]})]) for one in row])


def does_reach(leads, number, other):
    """Tell whether walks lead from one coloured strand to another one."""
    return leads[number] >> other & 1 == 1


def clashing(leads):
    """The list of the numbers of the coloured strands that lead to their strand in the other colour, and back."""
    return [k for k in range(len(leads)) if does_reach(leads, k, k ^ 1) and does_reach(leads, k ^ 1, k)]


def colourings_behind(leads, colouring):
    """The sets to which the colours that the first strand without one can have bring a set; none if all have one.

    Nothing clashes in them: what does not lead to its own opposite can be kept with all that it brings.
    """
    for number in range(0, len(leads), 2):
        if not colouring >> number & 3:
            return [colouring | 1 << k | leads[k] for k in (number, number + 1) if not does_reach(leads, k, k ^ 1)]
    return []


def least_colouring(leads):
    """The set of the least stripes, where nothing clashes."""
    colouring = 0
    further = colourings_behind(leads, colouring)
    while further:
        colouring = further[0]
        further = colourings_behind(leads, colouring)
    return colouring


def stripes_of(picture, colouring):
    """The stripes of a set in which each strand has a colour."""
    colours = "".join([COLOURS[colouring >> 2 * k + 1 & 1] for k in range(picture.ends + len(picture))])
    return (colours[:picture.ends], colours[picture.ends:])
