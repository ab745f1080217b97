"""Spots of a chart on a loom, and the rows that papers tell of them."""

from loomhold.byletters import do_hold, letters_of
from loomhold.charts import useful_states
from loomhold.errors import NoTreadle
from loomhold.kinds import is_ascending, is_int, is_string_over


def check_moves(loom, chart):
    """Raise NoTreadle with the first letter of a move, useful or not, that is none of the loom."""
    missing = sorted(set([letter for _, letter, _ in chart.moves if letter not in loom.letters]))
    if missing:
        raise NoTreadle(missing[0])


def useful_steps(chart):
    """For each useful state the list of pairs (letter, target) of its useful moves, in order."""
    steps = {state: [] for state in useful_states(chart)}
    for state, letter, target in chart.moves:
        if state in steps and target in steps:
            steps[state].append((letter, target))
    return steps


def useful_letters(chart):
    """The ascending list of the letters of a chart's useful moves."""
    steps = useful_steps(chart)
    return sorted({letter for state in steps for letter, _ in steps[state]})


def first_spots(chart):
    """The list of the first spot; the empty one if the state 0 is not useful."""
    return [(0, "")] if 0 in useful_states(chart) else []


def does_go_round(chart, ahead, loop, behind):
    """Tell whether any three values are strings of which ahead leads from the state 0 to a state, and behind to an end.

    Between them a loop, not empty, has to lead from this state to itself.
    """
    if not all([isinstance(word, str) for word in (ahead, loop, behind)]) or loop == "":
        return False
    state = chart.led(0, ahead)
    return state is not None and chart.led(state, loop) == state and chart.led(state, behind) in chart.ends


def spot_behind(spot, letter, target):
    """The spot to which a move takes a spot."""
    return (target, letters_of(spot[1] + letter))


def spot_ways(chart, starts):
    """The ways between all spots to which moves lead from some spots, those too."""
    steps = useful_steps(chart)
    ways = {start: [] for start in starts}
    queue = list(starts)
    at = 0
    while at < len(queue):
        here = queue[at]
        for letter, target in steps[here[0]]:
            spot = spot_behind(here, letter, target)
            ways[here].append((letter, spot))
            if spot not in ways:
                ways[spot] = []
                queue.append(spot)
        at += 1
    return ways


def unheld_spots(loom, spots):
    """The dict, with True, of those spots of a dict whose letters do not hold."""
    unheld = {letters: True for letters in sorted({spot[1] for spot in spots}) if not do_hold(loom, letters)}
    return {spot: True for spot in spots if spot[1] in unheld}


def fallen_spots(loom, chart, spots):
    """The dict, with True, of those spots of a dict that fall."""
    return {spot: True for spot in unheld_spots(loom, spots) if spot[0] in chart.ends}


def rows_of(numbers):
    """The ascending tuple of rows (state, letters, number) of a dict from spots to numbers."""
    return tuple(sorted([(*spot, numbers[spot]) for spot in numbers]))


def letters_of_moves(chart):
    """The string of the letters of all moves of a chart, useful or not."""
    return letters_of("".join([letter for _, letter, _ in chart.moves]))


def are_spots(chart, things):
    """Tell whether all values of a list are spots."""
    steps = useful_steps(chart)
    letters = letters_of_moves(chart)
    return all([is_spot(steps, letters, thing) for thing in things])


def is_spot(steps, letters, thing):
    """Tell whether any value is a spot; steps has the useful states, letters those of the moves."""
    if not isinstance(thing, tuple) or len(thing) != 2 or not is_int(thing[0]) or thing[0] not in steps:
        return False
    return is_string_over(thing[1], letters) and is_ascending(thing[1])


def spots_taken(chart, spots):
    """The list of pairs (spot, spot to which a move takes it) for the spots of a dict."""
    steps = useful_steps(chart)
    return [(spot, spot_behind(spot, letter, target)) for spot in spots for letter, target in steps[spot[0]]]


def numbers_told(chart, thing):
    """The dict from spots to numbers that rows tell; None for any value that is no rows."""
    if not isinstance(thing, tuple) or not all([is_numbered(item) for item in thing]):
        return None
    if not are_spots(chart, [item[:2] for item in thing]) or not is_ascending(thing):
        return None
    numbers = {(state, letters): number for state, letters, number in thing}
    return numbers if len(numbers) == len(thing) else None


def is_numbered(thing):
    """Tell whether any value is a tuple of three whose last item is an integer from -1 on."""
    return isinstance(thing, tuple) and len(thing) == 3 and is_int(thing[2]) and thing[2] >= -1


def do_rows_show(chart, numbers, starts, limit, fallen):
    """Tell whether the numbers of spots show that from some starts less than limit letters lead to a fall."""
    if not all([start in numbers and numbers[start] < limit for start in starts]):
        return False
    if not all([numbers[spot] >= 0 for spot in fallen]):
        return False
    return all([taken in numbers and (numbers[taken] == -1 or numbers[taken] < numbers[spot])
                for spot, taken in spots_taken(chart, numbers)])
