"""Stripes that show a picture: the least ones, all of them, and those of a face and a back."""

from loomhold.clauses import check_clash
from loomhold.colouring import clashing, colourings_behind, leadings, least_colouring, stripes_of
from loomhold.errors import NotShown, OtherSize, TooMany
from loomhold.pictures import COLOURS, Picture, crossings_of, first_unshown, other_colour


def first_stripes(picture, *, terms=()):
    """The least stripes that show the picture and keep the terms."""
    check_clash(picture, terms)
    return stripes_of(picture, least_colouring(leadings(picture, terms)))


def all_stripes(picture, *, terms=()):
    """Yield all stripes that show the picture and keep the terms, ascending."""
    leads = leadings(picture, terms)
    waiting = [0] if clashing(leads) == [] else []
    while waiting:
        colouring = waiting.pop()
        further = colourings_behind(leads, colouring)
        if further == []:
            yield stripes_of(picture, colouring)
        # The last one that waits is taken first, so dark waits behind light.
        waiting.extend(further[::-1])


def many_stripes(picture, *, terms=(), most=1000):
    """How many stripes there are; TooMany(most) if they are more than most."""
    many = 0
    for _ in all_stripes(picture, terms=terms):
        many += 1
        if many > most:
            raise TooMany(most)
    return many


def check_shown(picture, stripes):
    """Raise NotShown with the first crossing at which stripes do not show the picture."""
    crossing = first_unshown(picture, stripes)
    if crossing is not None:
        raise NotShown(crossing)


def back_by(picture, stripes):
    """The back of whatever cloth shows a whole picture with stripes."""
    check_shown(picture, stripes)
    ends, picks = stripes
    return Picture(tuple([
        "".join([pick if end == pick else other_colour(sign) for sign, end in zip(row, ends)])
        for row, pick in zip(picture.rows, picks)]))


def stripes_by(one, other):
    """The ascending tuple of all stripes with which some cloth has one picture as its face, the other as its back."""
    if one.ends != other.ends or len(one) != len(other):
        raise OtherSize()
    found = [stripes_from(one, other, colour) for colour in COLOURS]
    return tuple([stripes for stripes in found if do_tell(one, other, stripes)])


def stripes_from(one, other, colour):
    """The stripes with a colour at the end 0 that the first row and the first column of a face and a back tell."""
    picks = "".join([colour_across(row[0], further[0], colour) for row, further in zip(one.rows, other.rows)])
    ends = "".join([colour_across(sign, further, picks[0]) for sign, further in zip(one.rows[0], other.rows[0])])
    return (ends, picks)


def colour_across(sign, further, colour):
    """The colour of a strand at a crossing with these signs at the face and at the back, whose other strand has one."""
    return colour if sign == further else other_colour(colour)


def do_tell(one, other, stripes):
    """Tell whether a face and a back have, at each crossing, the colours of its two strands."""
    ends, picks = stripes
    return all([sorted([one.rows[pick][end], other.rows[pick][end]]) == sorted([ends[end], picks[pick]])
                for pick, end in crossings_of(one)])
