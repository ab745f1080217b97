"""Papers of the floats of a chart on a loom."""

from loomhold.charts import has_treadling
from loomhold.floats import (
    SIDES, float_told, greatest_float, runs_to, side_at, sides_of_shafts, steps_back, word_ahead, word_behind)
from loomhold.kinds import is_ascending, is_int, is_number_below, is_paper
from loomhold.spots import check_moves, does_go_round, useful_steps
from loomhold.ways import ring_from


def judge_floats(loom, chart):
    """A paper of the greatest float, or of a ring that floats without end."""
    greatest = greatest_float(loom, chart)
    return ring_paper(loom, chart) if greatest is None else within_paper(loom, chart, greatest)


def within_paper(loom, chart, number):
    """The paper "within" of a chart that has a greatest float."""
    rows = []
    for shaft, side in sides_of_shafts(loom):
        runs = runs_to(steps_back(loom, chart, shaft, side))
        rows.extend([(state, shaft, side, runs[state]) for state in runs])
    return ("within", number, tuple(sorted(rows)))


def ring_paper(loom, chart):
    """A paper "ring" of a chart that has no greatest float."""
    for shaft, side in sides_of_shafts(loom):
        back = steps_back(loom, chart, shaft, side)
        runs = runs_to(back)
        for start in back:
            if start not in runs:
                state, loop = ring_from(back, runs, start)
                return ("ring", word_ahead(chart, state), loop[::-1], word_behind(chart, state), shaft, side)


def floats_hold(loom, chart, thing):
    """Tell whether any value is a paper "within", with whatever number, or "ring"."""
    check_moves(loom, chart)
    if is_paper(thing, "ring", 6):
        return is_floating_ring(loom, chart, thing)
    return is_within(loom, chart, thing)


def is_floating_ring(loom, chart, thing):
    """Tell whether any tuple of six is a paper "ring" behind its word."""
    _, ahead, loop, behind, shaft, side = thing
    return does_go_round(chart, ahead, loop, behind) and is_shaft_on(loom, loop, shaft, side)


def is_shaft_on(loom, letters, shaft, side):
    """Tell whether any two values are a used shaft and the side that it has at each of some letters, one or more."""
    if not is_int(shaft) or shaft not in loom.used:
        return False
    return all([side_at(loom, letter, shaft) == side for letter in letters])


def is_within(loom, chart, thing):
    """Tell whether any value is a paper "within"."""
    if not is_paper(thing, "within", 3) or not is_int(thing[1]) or not isinstance(thing[2], tuple):
        return False
    steps = useful_steps(chart)
    if not all([is_row(loom, steps, thing[1], item) for item in thing[2]]) or not is_ascending(thing[2]):
        return False
    runs = {(state, shaft, side): run for state, shaft, side, run in thing[2]}
    # Rows that ascend are as many as there should be, and one for each, only if none stands there with two runs.
    many = len(steps) * len(loom.used) * len(SIDES)
    if thing[1] < 0 or len(runs) != many or len(thing[2]) != many:
        return False
    moves = [(state, letter, target) for state in steps for letter, target in steps[state]]
    return all([do_runs_rise(loom, runs, move) for move in moves])


def is_row(loom, steps, number, thing):
    """Tell whether any value is a row of a useful state, a used shaft, a side and a run to a number."""
    if not isinstance(thing, tuple) or len(thing) != 4 or not all([is_int(item) for item in thing[:2]]):
        return False
    if thing[0] not in steps or thing[1] not in loom.used or thing[2] not in SIDES:
        return False
    return is_number_below(thing[3], number + 1)


def do_runs_rise(loom, runs, move):
    """Tell whether a move makes the run of each used shaft, at the side that this has, longer."""
    state, letter, target = move
    kinds = [(shaft, side_at(loom, letter, shaft)) for shaft in loom.used]
    return all([runs[(target, shaft, side)] > runs[(state, shaft, side)] for shaft, side in kinds])


def judge_within(loom, chart, number):
    """A paper "within" a number, or of a treadling beyond it."""
    greatest = greatest_float(loom, chart)
    if greatest is None:
        _, ahead, loop, behind, shaft, side = ring_paper(loom, chart)
        return ("beyond", ahead + loop * (number // len(loop) + 1) + behind, shaft, side, len(ahead))
    if greatest > number:
        return ("beyond", *float_told(loom, chart, greatest))
    return within_paper(loom, chart, greatest)


def within_holds(loom, chart, number, thing):
    """Tell whether any value is a paper "within" a number, or "beyond" it."""
    check_moves(loom, chart)
    if is_paper(thing, "beyond", 5):
        return is_beyond(loom, chart, number, thing)
    return is_within(loom, chart, thing) and thing[1] <= number


def is_beyond(loom, chart, number, thing):
    """Tell whether any tuple of five is a paper "beyond" a number behind its word."""
    _, treadling, shaft, side, start = thing
    if not has_treadling(chart, treadling) or not is_number_below(start, len(treadling) - number):
        return False
    return is_shaft_on(loom, treadling[start:start + number + 1], shaft, side)
