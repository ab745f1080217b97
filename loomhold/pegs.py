"""Pegs: which shafts in which lifts are exchanged so that all treadlings of a chart hold, as few as can be."""

from loomhold.byletters import do_hold, letters_of
from loomhold.charts import has_treadling
from loomhold.holding import first_fall
from loomhold.holdpapers import judge_lasting
from loomhold.kinds import is_ascending, is_int, is_paper
from loomhold.spots import check_moves


def pegs_of(loom):
    """The ascending tuple of all pegs."""
    return tuple([(letter, shaft) for letter in loom.letters for shaft in loom.used])


def is_peg(loom, thing):
    """Tell whether any value is a peg."""
    if not isinstance(thing, tuple) or len(thing) != 2 or not isinstance(thing[0], str) or not is_int(thing[1]):
        return False
    return len(thing[0]) == 1 and thing[0] in loom.letters and thing[1] in loom.used


def is_pegs(loom, thing):
    """Tell whether any value is an ascending tuple of pegs."""
    return isinstance(thing, tuple) and all([is_peg(loom, item) for item in thing]) and is_ascending(thing)


def turned_loom(loom, pegs):
    """The loom with some pegs turned."""
    for letter, shaft in pegs:
        lift = loom.lift_of(letter)
        others = [number for number in lift if number != shaft]
        loom = loom.with_lift(letter, tuple(sorted(others if shaft in lift else [*lift, shaft])))
    return loom


def do_bind(loom, chart, pegs, *, late=False):
    """Tell whether pegs bind the chart, or bind it late."""
    return refusal(loom, chart, pegs, late=late) is None


def refusal(loom, chart, pegs, *, late=False):
    """The first treadling that does not hold with pegs turned, or a late refusal; None if they bind (late)."""
    check_moves(loom, chart)
    turned = turned_loom(loom, pegs)
    if not late:
        return first_fall(turned, chart)
    paper = judge_lasting(turned, chart)
    return paper[1:] if paper[0] == "ever" else None


def refusal_holds(loom, chart, pegs, thing, *, late=False):
    """Tell whether any value is a refusal, or a late refusal, of pegs."""
    check_moves(loom, chart)
    turned = turned_loom(loom, pegs)
    if late:
        return is_late_refusal(turned, chart, thing)
    return has_treadling(chart, thing) and not do_hold(turned, letters_of(thing))


def is_late_refusal(loom, chart, thing):
    """Tell whether any value is a triple of strings with loops between them that do not hold, however many they are."""
    if not isinstance(thing, tuple) or len(thing) != 3 or not all([isinstance(word, str) for word in thing]):
        return False
    ahead, loop, behind = thing
    if loop == "" or not do_loops_end(chart, ahead, loop, behind):
        return False
    # One loop has all letters that many of them have.
    return not do_hold(loom, letters_of(ahead + behind)) and not do_hold(loom, letters_of(ahead + loop + behind))


def do_loops_end(chart, ahead, loop, behind):
    """Tell whether ahead, any number of loops, and behind are treadlings of the chart."""
    state = chart.led(0, ahead)
    met = {}
    while state is not None and state not in met:
        met[state] = True
        state = chart.led(state, loop)
    return state is not None and all([chart.led(here, behind) in chart.ends for here in met])


def pegs_below(loom, many):
    """The ascending list of all ascending tuples of fewer pegs than so many."""
    rows = [()] if many > 0 else []
    for peg in pegs_of(loom):
        rows = [*rows, *[(*row, peg) for row in rows if len(row) + 1 < many]]
    return sorted(rows)


def refusals_told(loom, chart, late, most):
    """For pegs, fewer ones first, until some bind, and at most so many, their refusal, None where they bind (late)."""
    told = {}
    rows = pegs_below(loom, most + 1)
    for many in range(most + 1):
        for row in rows:
            if len(row) == many:
                told[row] = refusal(loom, chart, row, late=late)
        if None in list(told.values()):
            return told
    return told


def fewest_pegs(loom, chart, *, late=False, most=2):
    """The ascending tuple of all fewest pegs that bind (late), () if none of at most so many do."""
    check_moves(loom, chart)
    told = refusals_told(loom, chart, late, most)
    return tuple(sorted([row for row in told if told[row] is None]))


def judge_pegs(loom, chart, *, late=False, most=2):
    """A paper of fewest pegs, or that none of at most so many bind (late)."""
    check_moves(loom, chart)
    told = refusals_told(loom, chart, late, most)
    found = sorted([row for row in told if told[row] is None])
    refused = [(row, told[row]) for row in pegs_below(loom, len(found[0]) if found else most + 1)]
    return ("pegs", found[0], tuple(refused)) if found else ("none", tuple(refused))


def pegs_hold(loom, chart, thing, *, late=False, most=2):
    """Tell whether any value is a paper "pegs" or "none"."""
    check_moves(loom, chart)
    if is_paper(thing, "none", 2):
        return are_all_refused(loom, chart, thing[1], most + 1, late)
    if not is_paper(thing, "pegs", 3) or not is_pegs(loom, thing[1]) or len(thing[1]) > most:
        return False
    if not do_bind(loom, chart, thing[1], late=late):
        return False
    return are_all_refused(loom, chart, thing[2], len(thing[1]), late)


def are_all_refused(loom, chart, thing, many, late):
    """Tell whether any value has, in order, a pair with a refusal for each tuple of fewer pegs than so many."""
    if not isinstance(thing, tuple) or not all([is_refused(loom, item) for item in thing]):
        return False
    if [item[0] for item in thing] != pegs_below(loom, many):
        return False
    return all([refusal_holds(loom, chart, row, told, late=late) for row, told in thing])


def is_refused(loom, thing):
    """Tell whether any value is a pair whose first is pegs."""
    return isinstance(thing, tuple) and len(thing) == 2 and is_pegs(loom, thing[0])
