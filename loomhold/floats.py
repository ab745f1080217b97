"""Floats: how long used shafts keep one side in the treadlings of a chart, or in a roll, and floats of picks."""

from loomhold.charts import steps_of
from loomhold.floatruns import longest_in_roll
from loomhold.rollparts import letters_within, picks_within
from loomhold.rolls import check_roll
from loomhold.spots import check_moves, useful_letters, useful_steps
from loomhold.stretches import run_of
from loomhold.ways import first_word_to, numbers_left

SIDES = ("down", "up")


def side_at(loom, letter, shaft):
    """The side that a shaft has at a letter."""
    return "up" if shaft in loom.lift_of(letter) else "down"


def sides_of_shafts(loom):
    """The list of pairs (shaft, side), one for each used shaft and each side, in order."""
    return [(shaft, side) for shaft in loom.used for side in SIDES]


def steps_back(loom, chart, shaft, side):
    """For each useful state the pairs (letter, state) of the useful moves to it at which a shaft has a side."""
    steps = useful_steps(chart)
    back = {state: [] for state in steps}
    for state in steps:
        for letter, target in steps[state]:
            if side_at(loom, letter, shaft) == side:
                back[target].append((letter, state))
    return back


def runs_to(back):
    """For each state how many steps back there are at most, one behind the other; without states with no most."""
    return numbers_left(back, list(back))


def greatest_float(loom, chart):
    """The greatest float of a chart, None if there is none."""
    check_moves(loom, chart)
    greatest = 0
    for shaft, side in sides_of_shafts(loom):
        back = steps_back(loom, chart, shaft, side)
        runs = runs_to(back)
        if len(runs) < len(back):
            return None
        greatest = max([greatest, *list(runs.values())])
    return greatest


def floating_treadling(loom, chart):
    """A treadling that has the greatest float, None if there is no greatest one or it is 0."""
    greatest = greatest_float(loom, chart)
    if greatest is None or greatest == 0:
        return None
    return float_told(loom, chart, greatest)[0]


def float_told(loom, chart, number):
    """A tuple (treadling, shaft, side, start) of a float of so many picks, one or more, that no state goes beyond."""
    for shaft, side in sides_of_shafts(loom):
        back = steps_back(loom, chart, shaft, side)
        runs = runs_to(back)
        ends = [state for state in runs if runs[state] == number]
        if ends:
            start, run = run_to(back, runs, ends[0])
            ahead = word_ahead(chart, start)
            return (ahead + run + word_behind(chart, ends[0]), shaft, side, len(ahead))


def run_to(back, runs, state):
    """A state with the string of the longest run, from it, that ends at a state."""
    run = ""
    while runs[state] > 0:
        steps = [step for step in back[state] if runs[step[1]] == runs[state] - 1]
        run = steps[0][0] + run
        state = steps[0][1]
    return state, run


def word_ahead(chart, state):
    """The first string that leads from the state 0 to a useful state."""
    return first_word_to(steps_of(chart), 0, [state])


def word_behind(chart, state):
    """The first string that leads from a useful state to an end."""
    return first_word_to(steps_of(chart), state, chart.ends)


def first_longest(loom, roll):
    """The first longest float (number, shaft, side, start) of a roll, None if it has no picks."""
    check_roll(loom, roll)
    if picks_within(roll) == 0:
        return None
    rows = []
    for shaft in loom.used:
        length, start = longest_in_roll(loom, shaft, roll)
        rows.append((-abs(length), start, shaft, "up" if length > 0 else "down"))
    number, start, shaft, side = min(rows)
    return (-number, shaft, side, start)


def weft_float(loom, letter):
    """The greatest number of ends side by side that have one side at the pick of a letter."""
    lift = loom.lift_of(letter)
    return max(run_of([shaft in lift for shaft in loom.threading])[2:])


def greatest_weft_float(loom, chart):
    """The greatest weft float of the letters of useful moves, 0 without any."""
    check_moves(loom, chart)
    return max([0, *[weft_float(loom, letter) for letter in useful_letters(chart)]])


def weft_float_of_roll(loom, roll):
    """The greatest weft float of the letters of a roll's treadling, 0 without picks."""
    check_roll(loom, roll)
    return max([0, *[weft_float(loom, letter) for letter in letters_within(roll)]])


def keeps_within(loom, chart, number):
    """Tell whether neither floats nor weft floats of a chart are longer than a number."""
    greatest = greatest_float(loom, chart)
    return greatest is not None and max(greatest, greatest_weft_float(loom, chart)) <= number
