"""Drafts: looms and treadlings that weave a cloth, with as few shafts and letters as can be, and reduced looms."""

from loomhold.cloths import woven
from loomhold.errors import BadTreadling
from loomhold.kinds import LETTERS, is_paper, is_tuple_below
from loomhold.looms import Loom, is_treadling
from loomhold.periods import columns_of


def kinds_of(row):
    """The tuple with the number of its kind for each item of a row; kinds are numbered in the order of their first."""
    numbers = {}
    for item in row:
        numbers.setdefault(item, len(numbers))
    return tuple([numbers[item] for item in row])


def end_kinds(cloth):
    """The tuple with the number of its kind for each end."""
    return kinds_of(columns_of(cloth.picks))


def pick_kinds(cloth):
    """The tuple with the number of its kind for each pick."""
    return kinds_of(cloth.picks)


def fewest_shafts(cloth):
    """How many kinds of ends there are."""
    return len(set(end_kinds(cloth)))


def fewest_treadles(cloth):
    """How many kinds of picks there are."""
    return len(set(pick_kinds(cloth)))


def least_draft(cloth):
    """The least draft: a shaft for each kind of ends, and a treadle for each kind of picks."""
    threading = end_kinds(cloth)
    kinds = pick_kinds(cloth)
    lifts = [shafts_raised(threading, cloth.picks[kinds.index(kind)]) for kind in range(fewest_treadles(cloth))]
    return Loom(fewest_shafts(cloth), threading, tuple(lifts)), "".join([LETTERS[kind] for kind in kinds])


def shafts_raised(threading, pick):
    """The lift by which a pick is laid in, where ends on one shaft have one sign."""
    return tuple(sorted({shaft for shaft, sign in zip(threading, pick) if sign == "x"}))


def is_draft_of(cloth, thing):
    """Tell whether any value is a draft of the cloth."""
    if not isinstance(thing, tuple) or len(thing) != 2 or not isinstance(thing[0], Loom):
        return False
    return thing[1] != "" and is_treadling(thing[0], thing[1]) and woven(thing[0], thing[1]) == cloth


def unlike_paper(cloth):
    """A paper that no draft has fewer shafts, or letters, than there are kinds."""
    return ("unlike", first_of_kinds(end_kinds(cloth)), first_of_kinds(pick_kinds(cloth)))


def first_of_kinds(kinds):
    """The ascending tuple of the places at which a kind stands first."""
    return tuple([place for place, kind in enumerate(kinds) if kind not in kinds[:place]])


def unlike_holds(cloth, thing):
    """Tell whether any value is a paper "unlike" of the cloth."""
    if not is_paper(thing, "unlike", 3):
        return False
    return has_all_kinds(end_kinds(cloth), thing[1]) and has_all_kinds(pick_kinds(cloth), thing[2])


def has_all_kinds(kinds, thing):
    """Tell whether any value is an ascending tuple of places, just one of each kind."""
    if not is_tuple_below(thing, len(kinds)):
        return False
    return len(thing) == len(set(kinds)) and set([kinds[place] for place in thing]) == set(kinds)


def first_crossing(one, other):
    """The least crossing that only one of the cloths of two drafts has, or at which they are unlike; None if none."""
    cloth = woven(one[0], one[1])
    further = woven(other[0], other[1])
    for pick in range(max(len(cloth), len(further))):
        for end in range(max(cloth.ends, further.ends)):
            if sign_at(cloth, pick, end) != sign_at(further, pick, end):
                return (pick, end)
    return None


def sign_at(cloth, pick, end):
    """The sign at a crossing, "" if the cloth does not have it."""
    return cloth.picks[pick][end] if pick < len(cloth) and end < cloth.ends else ""


def reduced(loom):
    """The pair of the reduced loom and the led letters: the least draft of the cloth that all letters weave."""
    return least_draft(woven(loom, loom.letters))


def is_reduced(loom):
    """Tell whether the reduced loom is the loom itself."""
    return reduced(loom)[0] == loom


def led_treadling(loom, treadling):
    """The treadling of the led letters."""
    if not is_treadling(loom, treadling):
        raise BadTreadling(treadling)
    led = reduced(loom)[1]
    return "".join([led[LETTERS.index(letter)] for letter in treadling])
