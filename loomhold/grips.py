"""The grip of a chart on a loom: from how many picks on each stretch holds."""

from loomhold.byletters import do_hold, letters_of
from loomhold.charts import steps_of, useful_states
from loomhold.kinds import is_int, is_paper
from loomhold.spots import check_moves, do_rows_show, does_go_round, numbers_told, rows_of, spot_ways, unheld_spots
from loomhold.ways import first_word_to, numbers_left, ring_from


def bare_spots(chart):
    """The list of the spots without letters, at which stretches begin."""
    return [(state, "") for state in useful_states(chart)]


def grip(loom, chart):
    """The least number of letters from 1 on of which each stretch holds, None if there is none."""
    paper = judge_grip(loom, chart)
    return paper[1] if paper[0] == "grip" else None


def first_slip(loom, chart, length):
    """The first stretch of so many letters that does not hold, None if there is none."""
    check_moves(loom, chart)
    ways = spot_ways(chart, bare_spots(chart))
    near = near_falls(ways, unheld_spots(loom, ways), length)
    here = [spot for spot in bare_spots(chart) if spot in near[length]]
    if here == []:
        return None
    word = ""
    for further in near[:length][::-1]:
        steps = sorted([step for spot in here for step in ways[spot] if step[1] in further])
        word = word + steps[0][0]
        here = list({spot: True for letter, spot in steps if letter == steps[0][0]})
    return word


def near_falls(ways, unheld, length):
    """For each number of letters up to length the dict, with True, of the spots that so many lead to unheld ones."""
    near = [unheld]
    for _ in range(length):
        near.append({spot: True for spot in ways if any([further in near[-1] for _, further in ways[spot]])})
    return near


def judge_grip(loom, chart):
    """A paper of the grip, or of a ring in stretches that fall."""
    check_moves(loom, chart)
    starts = bare_spots(chart)
    ways = spot_ways(chart, starts)
    unheld = unheld_spots(loom, ways)
    numbers = numbers_left(ways, unheld)
    for start in starts:
        if start not in numbers:
            spot, loop = ring_from(ways, numbers, start)
            begin = first_word_to(ways, start, [spot])
            return slip_paper(chart, start[0], begin, loop, first_word_to(ways, spot, unheld))
    return ("grip", max([0, *[numbers[start] for start in starts]]) + 1, rows_of(numbers))


def slip_paper(chart, state, begin, loop, end):
    """The paper "slips" of a state from which begin leads to the loop, and end behind it."""
    steps = steps_of(chart)
    behind = first_word_to(steps, chart.led(state, begin + end), chart.ends)
    return ("slips", first_word_to(steps, 0, [state]), begin, loop, end, behind)


def grip_holds(loom, chart, thing):
    """Tell whether any value is a paper "grip", with any number that its rows show, or "slips"."""
    check_moves(loom, chart)
    if is_paper(thing, "slips", 6):
        return is_slipping_ring(loom, chart, thing[1:])
    if not is_paper(thing, "grip", 3) or not is_int(thing[1]) or thing[1] < 1:
        return False
    numbers = numbers_told(chart, thing[2])
    if numbers is None:
        return False
    return do_rows_show(chart, numbers, bare_spots(chart), thing[1], unheld_spots(loom, numbers))


def is_slipping_ring(loom, chart, words):
    """Tell whether any tuple of five is one of strings ahead, begin, loop, end and behind whose stretches fall."""
    if not all([isinstance(word, str) for word in words]):
        return False
    ahead, begin, loop, end, behind = words
    if not does_go_round(chart, ahead + begin, loop, end + behind):
        return False
    return all([letter in begin for letter in loop]) and not do_hold(loom, letters_of(begin + end))
