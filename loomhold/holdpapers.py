"""Papers of whether all treadlings of a chart hold on a loom, and from which length on they do."""

from loomhold.byletters import do_hold, letters_of
from loomhold.charts import has_treadling, longest_treadling, treadlings_of
from loomhold.holding import falling_chart, first_fall, spots_met
from loomhold.kinds import is_ascending, is_int, is_paper
from loomhold.spots import (
    are_spots, check_moves, do_rows_show, does_go_round, fallen_spots, first_spots, numbers_told, rows_of, spot_ways,
    spots_taken)
from loomhold.ways import first_word_to, numbers_left, ring_from


def judge_chart(loom, chart):
    """A paper that all treadlings hold, or of the first one that falls."""
    word = first_fall(loom, chart)
    if word is not None:
        return ("falls", word)
    return ("all", spots_met(loom, chart))


def chart_holds(loom, chart, thing):
    """Tell whether any value is a paper "all" or "falls"."""
    check_moves(loom, chart)
    if is_paper(thing, "falls", 2):
        return has_treadling(chart, thing[1]) and not do_hold(loom, letters_of(thing[1]))
    return is_paper(thing, "all", 2) and isinstance(thing[1], tuple) and is_safe_lot(loom, chart, thing[1])


def is_safe_lot(loom, chart, row):
    """Tell whether any tuple is a lot of spots that moves do not leave, with the first one and none that falls."""
    if not are_spots(chart, list(row)) or not is_ascending(row):
        return False
    lot = {spot: True for spot in row}
    if fallen_spots(loom, chart, lot) or not all([spot in lot for spot in first_spots(chart)]):
        return False
    return all([taken in lot for _, taken in spots_taken(chart, lot)])


def lasts_from(loom, chart):
    """The least number of letters from which on all treadlings hold, None if there is none."""
    falling = falling_chart(loom, chart)
    if falling.ends == ():
        return 0
    longest = longest_treadling(falling)
    return None if longest is None else longest + 1


def last_fall(loom, chart):
    """The first of the longest treadlings that fall, None if none falls, or there are ever longer ones."""
    falling = falling_chart(loom, chart)
    longest = longest_treadling(falling)
    if longest is None:
        return None
    for word in treadlings_of(falling, longest):
        return word


def judge_lasting(loom, chart):
    """A paper of the least number from which on the chart lasts, or of a ring that falls for ever."""
    check_moves(loom, chart)
    starts = first_spots(chart)
    ways = spot_ways(chart, starts)
    fallen = fallen_spots(loom, chart, ways)
    numbers = numbers_left(ways, fallen)
    if len(numbers) < len(ways):
        spot, loop = ring_from(ways, numbers, starts[0])
        return ("ever", first_word_to(ways, starts[0], [spot]), loop, first_word_to(ways, spot, fallen))
    return ("from", max([-1, *[numbers[spot] for spot in starts]]) + 1, rows_of(numbers))


def lasting_holds(loom, chart, thing):
    """Tell whether any value is a paper "from", with any number that its rows show, or "ever"."""
    check_moves(loom, chart)
    if is_paper(thing, "ever", 4):
        return is_falling_ring(loom, chart, thing[1:])
    if not is_paper(thing, "from", 3) or not is_int(thing[1]) or thing[1] < 0:
        return False
    numbers = numbers_told(chart, thing[2])
    if numbers is None:
        return False
    return do_rows_show(chart, numbers, first_spots(chart), thing[1], fallen_spots(loom, chart, numbers))


def is_falling_ring(loom, chart, words):
    """Tell whether any tuple of three is one of strings ahead, loop and behind that fall for ever."""
    ahead, loop, behind = words
    if not does_go_round(chart, ahead, loop, behind):
        return False
    return all([letter in ahead for letter in loop]) and not do_hold(loom, letters_of(ahead + behind))
