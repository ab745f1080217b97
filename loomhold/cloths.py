"""Cloths: their picks, their strands, and which strand lies over which."""

from loomhold.errors import BadCloth, BadText, BadTreadling
from loomhold.kinds import first_uneven, is_number_below
from loomhold.looms import is_treadling
from loomhold.reaching import closed
from loomhold.texts import lines_of

SIGNS = "x-"


class Cloth:
    """A cloth; it is made once and then never changed."""

    def __init__(self, picks):
        if not isinstance(picks, tuple) or picks == ():
            raise BadCloth("picks")
        number = first_uneven(picks, SIGNS)
        if number is not None:
            raise BadCloth(number)
        self.picks = picks
        self.ends = len(picks[0])

    def __len__(self):
        return len(self.picks)

    def __eq__(self, other):
        return isinstance(other, Cloth) and self.picks == other.picks

    def __str__(self):
        return "\n".join(self.picks)

    @classmethod
    def read(cls, text):
        """The cloth with a text."""
        lines = lines_of(text)
        number = first_uneven(lines, SIGNS)
        if number is not None:
            raise BadText(number + 1)
        return cls(tuple(lines))


def woven(loom, treadling):
    """The cloth that a treadling of one or more letters weaves."""
    if not is_treadling(loom, treadling) or treadling == "":
        raise BadTreadling(treadling)
    laid = {letter: pick_of(loom.threading, loom.lift_of(letter)) for letter in treadling}
    return Cloth(tuple([laid[letter] for letter in treadling]))


def pick_of(shafts, lift):
    """The signs of a pick across ends that are on these shafts."""
    return "".join(["x" if shaft in lift else "-" for shaft in shafts])


def strands(cloth):
    """The ascending tuple of all strands."""
    ends = [("end", number) for number in range(cloth.ends)]
    return (*ends, *[("pick", number) for number in range(len(cloth))])


def is_strand(cloth, thing):
    """Tell whether any value is a strand of the cloth."""
    if not isinstance(thing, tuple) or len(thing) != 2:
        return False
    if thing[0] == "end":
        return is_number_below(thing[1], cloth.ends)
    return thing[0] == "pick" and is_number_below(thing[1], len(cloth))


def is_crossing(cloth, thing):
    """Tell whether any value is a crossing, a pair (number of a pick, number of an end), of the cloth."""
    if not isinstance(thing, tuple) or len(thing) != 2:
        return False
    return is_number_below(thing[0], len(cloth)) and is_number_below(thing[1], cloth.ends)


def is_over(cloth, one, other):
    """Tell whether one strand lies over another one."""
    if one[0] == other[0]:
        return False
    if one[0] == "end":
        return cloth.picks[other[1]][one[1]] == "x"
    return cloth.picks[one[1]][other[1]] == "-"


def led_masks(cloth):
    """For each strand, in order, the set of the strands to which it leads: bit k tells of the strand k."""
    ends = [sum([1 << cloth.ends + number for number, pick in enumerate(cloth.picks) if pick[end] == "x"])
            for end in range(cloth.ends)]
    picks = [sum([1 << end for end, sign in enumerate(pick) if sign == "-"]) for pick in cloth.picks]
    return closed([*ends, *picks])


def does_lead(cloth, one, other):
    """Tell whether one strand leads to another one, by two or more strands."""
    row = strands(cloth)
    return led_masks(cloth)[row.index(one)] >> row.index(other) & 1 == 1


def turned_at(cloth, crossings):
    """The cloth with the signs at some crossings exchanged."""
    turned = {crossing: True for crossing in crossings}
    return Cloth(tuple([turned_pick(pick, number, turned) for number, pick in enumerate(cloth.picks)]))


def turned_pick(pick, number, turned):
    """A pick with the signs exchanged at those of its crossings that are turned."""
    return "".join([other_sign(sign) if (number, end) in turned else sign for end, sign in enumerate(pick)])


def other_sign(sign):
    """The sign that a turned crossing has."""
    return "-" if sign == "x" else "x"
