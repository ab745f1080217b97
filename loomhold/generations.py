"""What is told of all generations of a growth: maps that come round, rows that come round, and papers."""

from loomhold.errors import TooMany
from loomhold.kinds import is_int, is_number_below, is_paper
from loomhold.maps import grown_parts, maps_met, place_in_round
from loomhold.periods import period_of
from loomhold.stretches import do_parts_hold

MOST_ROUND = 2000
MOST_NUMBER = 10 ** 30


def map_at(growth, n, top):
    """The map of a generation."""
    maps, first = maps_met(growth, top, n + 1)
    return maps[place_in_round(maps, first, n)]


def map_round(growth, top, *, most=2000):
    """The least pair (first, around) by which the maps come round; TooMany(most) if both together are more."""
    maps, first = maps_met(growth, top, most)
    if first is None:
        raise TooMany(most)
    return (first, len(maps) - first)


def holding_verdicts(growth, most):
    """The verdicts on the generations with unlike maps, at most so many: whether each of them holds.

    With them the number of the generation whose map comes again behind the last one, None if none does so far.
    """
    maps, first = maps_met(growth, 1, most)
    return [do_parts_hold(growth.loom, grown_parts(growth, one, 1)) for one in maps], first


def float_verdicts(growth, d, most):
    """Likewise: whether each of them has no float longer than d."""
    maps, first = maps_met(growth, d + 1, most)
    return [are_parts_within(growth.loom, grown_parts(growth, one, d + 1), d) for one in maps], first


def are_parts_within(loom, parts, d):
    """Tell whether a stretch with these parts, cut off above d, has no float longer than d."""
    return all([max(parts[2][shaft][2:]) <= d for shaft in loom.used])


def is_known(told, n):
    """Tell whether verdicts tell of a generation, too."""
    verdicts, first = told
    return n < len(verdicts) or first is not None


def verdict_at(told, n, most):
    """The verdict on a generation; TooMany(most) if there is none."""
    if not is_known(told, n):
        raise TooMany(most)
    verdicts, first = told
    return verdicts[place_in_round(verdicts, first, n)]


def first_with(told, verdict, most):
    """The least number of a generation with a verdict, None without one; TooMany(most) if it is not known."""
    verdicts, first = told
    if verdict in verdicts:
        return verdicts.index(verdict)
    if first is None:
        raise TooMany(most)
    return None


def least_row(told, most):
    """The least row that comes round of verdicts; TooMany(most) if they do not."""
    verdicts, first = told
    if first is None:
        raise TooMany(most)
    signs = "".join(["x" if verdict else "-" for verdict in verdicts])
    ahead = signs[:first]
    again = signs[first:]
    again = again[:period_of(again)]
    # What ends as the part that comes again does can be told by this part alone, begun one sign earlier.
    while ahead.endswith(again[-1]):
        ahead = ahead[:-1]
        again = again[-1] + again[:-1]
    return (ahead, again)


def does_hold_at(growth, n, *, most=2000):
    """Tell whether a generation holds."""
    return verdict_at(holding_verdicts(growth, most), n, most)


def is_within_at(growth, n, d, *, most=2000):
    """Tell whether a generation has no float longer than d."""
    return verdict_at(float_verdicts(growth, d, most), n, most)


def holding_row(growth, *, most=2000):
    """The least row that comes round, with x for the generations that hold."""
    return least_row(holding_verdicts(growth, most), most)


def float_row(growth, d, *, most=2000):
    """The least row that comes round, with x for the generations that have no float longer than d."""
    return least_row(float_verdicts(growth, d, most), most)


def first_fallen(growth, *, most=2000):
    """The least number of a generation that does not hold, None if each one holds."""
    return first_with(holding_verdicts(growth, most), False, most)


def first_held(growth, *, most=2000):
    """The least number of a generation that holds, None if none does."""
    return first_with(holding_verdicts(growth, most), True, most)


def first_float_above(growth, d, *, most=2000):
    """The least number of a generation with a float longer than d, None if there is none."""
    return first_with(float_verdicts(growth, d, most), False, most)


def judge_generations(growth, *, most=2000):
    """A paper that all generations hold, or of the first one that does not."""
    return paper_of(holding_verdicts(growth, most), most)


def judge_grown_floats(growth, d, *, most=2000):
    """A paper that no generation has a float longer than d, or of the first one that has."""
    return paper_of(float_verdicts(growth, d, most), most)


def paper_of(told, most):
    """The paper "broken" or "kept" of verdicts; TooMany(most) if neither is known."""
    number = first_with(told, False, most)
    verdicts, first = told
    return ("kept", first, len(verdicts) - first) if number is None else ("broken", number)


def is_round_paper(thing):
    """Tell whether any value is a paper "kept" or "broken" as far as its numbers go."""
    if is_paper(thing, "broken", 2):
        return is_number_below(thing[1], MOST_NUMBER + 1)
    if not is_paper(thing, "kept", 3) or not is_int(thing[1]) or not is_int(thing[2]):
        return False
    return thing[1] >= 0 and thing[2] >= 1 and thing[1] + thing[2] <= MOST_ROUND


def do_verdicts_show(told, thing):
    """Tell whether verdicts show what a paper "kept" or "broken" tells."""
    verdicts, first = told
    number = thing[1] if thing[0] == "broken" else thing[1] + thing[2]
    if not is_known(told, number):
        return False
    place = place_in_round(verdicts, first, number)
    if thing[0] == "broken":
        return not verdicts[place]
    # Where the maps have come round, each of them stands ahead: so all verdicts are asked.
    return place == place_in_round(verdicts, first, thing[1]) and False not in verdicts


def generations_hold(growth, thing):
    """Tell whether any value is a paper of whether all generations hold."""
    return is_round_paper(thing) and do_verdicts_show(holding_verdicts(growth, MOST_ROUND), thing)


def grown_floats_hold(growth, d, thing):
    """Tell whether any value is a paper of whether no generation has a float longer than d."""
    return is_round_paper(thing) and do_verdicts_show(float_verdicts(growth, d, MOST_ROUND), thing)
