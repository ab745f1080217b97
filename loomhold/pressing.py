"""Several treadles pressed at once: what is woven so, the bars that treadles raise, and as few treadles as can be."""

from loomhold.barparts import apart_from, are_two_apart, fewest_greatest, places_in, rows_of
from loomhold.cloths import Cloth, is_crossing, pick_of
from loomhold.drafts import end_kinds, fewest_shafts, first_of_kinds, pick_kinds
from loomhold.errors import BadPress
from loomhold.kinds import LETTERS, is_ascending, is_tuple_below
from loomhold.looms import Loom, is_treadling


def is_press(loom, thing):
    """Tell whether any value is an ascending string of letters of the loom, perhaps empty."""
    return is_treadling(loom, thing) and is_ascending(thing)


def are_presses(loom, thing):
    """Tell whether any value is presses for the loom."""
    return isinstance(thing, tuple) and thing != () and all([is_press(loom, item) for item in thing])


def woven_pressed(loom, presses):
    """The cloth that is woven by presses."""
    if not isinstance(presses, tuple) or presses == ():
        raise BadPress(-1)
    for number, press in enumerate(presses):
        if not is_press(loom, press):
            raise BadPress(number)
    return Cloth(tuple([pick_of(loom.threading, shafts_pressed(loom, press)) for press in presses]))


def shafts_pressed(loom, press):
    """The list of the shafts that are in a lift of one of some treadles or more, some perhaps twice."""
    return [shaft for letter in press for shaft in loom.lift_of(letter)]


def is_bar(cloth, thing):
    """Tell whether any value is a bar of the cloth."""
    if not isinstance(thing, tuple) or len(thing) != 2 or () in thing:
        return False
    if not is_tuple_below(thing[0], len(cloth)) or not is_tuple_below(thing[1], cloth.ends):
        return False
    return all([cloth.picks[pick][end] == "x" for pick in thing[0] for end in thing[1]])


def ends_above(cloth):
    """The ascending list of all crossings with the end above."""
    return [(number, end) for number, pick in enumerate(cloth.picks) for end, sign in enumerate(pick) if sign == "x"]


def do_cover(cloth, thing):
    """Tell whether any value is a tuple of bars that covers the cloth."""
    if not isinstance(thing, tuple) or not all([is_bar(cloth, item) for item in thing]):
        return False
    covered = {(pick, end): True for picks, ends in thing for pick in picks for end in ends}
    return len(covered) == len(ends_above(cloth))


def least_rows(cloth):
    """The rows, as sets of ends, of the cloth that has one pick and one end of each kind."""
    ends = first_of_kinds(end_kinds(cloth))
    picks = [cloth.picks[number] for number in first_of_kinds(pick_kinds(cloth))]
    return rows_of(["".join([pick[end] for end in ends]) for pick in picks])


def fewest_bars(cloth):
    """The least number of bars that cover the cloth."""
    return len(fewest_greatest(least_rows(cloth)))


def bars_of(cloth):
    """A cover of as few bars as can be, ascending."""
    return tuple(sorted([(places_of(pick_kinds(cloth), picks), places_of(end_kinds(cloth), ends))
                         for picks, ends in fewest_greatest(least_rows(cloth))]))


def places_of(kinds, mask):
    """The ascending tuple of the places at which one of a set of kinds stands."""
    return tuple([place for place, kind in enumerate(kinds) if kind in places_in(mask)])


def bars_by(loom, presses):
    """The bars of the treadles, in their order, without those that are never pressed or raise no end."""
    bars = []
    for letter in loom.letters:
        picks = tuple([number for number, press in enumerate(presses) if letter in press])
        ends = tuple([end for end, shaft in enumerate(loom.threading) if shaft in loom.lift_of(letter)])
        if picks != () and ends != ():
            bars.append((picks, ends))
    return tuple(bars)


def are_apart(cloth, one, other):
    """Tell whether no bar has both of two crossings with the end above."""
    return are_two_apart(rows_of(cloth.picks), one, other)


def most_apart(cloth):
    """An ascending tuple of as many crossings as can be, any two of which are apart."""
    picks = first_of_kinds(pick_kinds(cloth))
    ends = first_of_kinds(end_kinds(cloth))
    # Two crossings of picks of one kind, or of ends of one kind, are never apart.
    return tuple([(picks[pick], ends[end]) for pick, end in apart_from(least_rows(cloth), 0, [])])


def apart_holds(cloth, thing):
    """Tell whether any value is an ascending tuple of crossings with the end above, any two apart."""
    if not isinstance(thing, tuple) or not all([is_crossing(cloth, item) for item in thing]):
        return False
    if not is_ascending(thing) or not all([cloth.picks[pick][end] == "x" for pick, end in thing]):
        return False
    # No two at one pick are apart: so there are at most as many as picks, and few pairs to be asked for.
    rows = rows_of(cloth.picks)
    return len(thing) <= len(rows) and all(
        [are_two_apart(rows, one, other) for place, one in enumerate(thing) for other in thing[:place]])


def pressed_draft(cloth):
    """A pair (loom, presses) that weaves the cloth, with as few treadles, and used shafts, as can be."""
    threading = end_kinds(cloth)
    bars = bars_of(cloth)
    lifts = [tuple(sorted({threading[end] for end in ends})) for _, ends in bars]
    presses = ["".join([letter for letter, bar in zip(LETTERS, bars) if number in bar[0]])
               for number in range(len(cloth))]
    return Loom(fewest_shafts(cloth), threading, tuple(lifts) if lifts else ((),)), tuple(presses)
