"""Scripts: letters, choices and loops; their charts, and scripts of charts."""

from loomhold.chartpapers import least_chart
from loomhold.errors import BadScript, NoTreadling
from loomhold.exploring import explored
from loomhold.kinds import LETTERS
from loomhold.nets import led_places, net_of, places_linked
from loomhold.scriptrows import choice_of, row_between


def is_script(thing):
    """Tell whether any value is a script."""
    return isinstance(thing, str) and breaking_place(thing) is None


def check_script(text):
    """Raise BadScript for any value that is no script."""
    if not isinstance(text, str):
        raise BadScript(-1)
    place = breaking_place(text)
    if place is not None:
        raise BadScript(place)


def breaking_place(text):
    """How many signs the longest beginning of a string has with which some script begins; None if it is a script."""
    # For each loop that is begun there waits "(", for each choice "[", or "|" as soon as it has a second row.
    waiting = []
    for place, sign in enumerate(text):
        top = waiting[-1] if waiting else ""
        ahead = text[place - 1:place]
        if (sign == "*") != (ahead == ")") or not may_stand(sign, top):
            return place
        if sign in ("]", ")", "|"):
            waiting.pop()
        if sign in ("[", "(", "|"):
            waiting.append(sign)
    return len(text) if waiting or text.endswith(")") else None


def may_stand(sign, top):
    """Tell whether a sign may stand within what was begun last: a loop, a choice with one row or more, or nothing."""
    if sign == "|":
        return top in ("[", "|")
    if sign == "]":
        return top == "|"
    if sign == ")":
        return top == "("
    return sign in LETTERS or sign in ("[", "(", "*")


def chart_of(script, letters):
    """The least chart over some letters with the treadlings of a script."""
    net = net_of(script)
    end = 1 << net.now
    return least_chart(explored(
        letters, places_linked(net, [0]),
        lambda mask, letter: led_places(net, mask, letter),
        lambda mask: mask & end != 0))


def script_of(chart):
    """A script with the treadlings of a chart."""
    least = least_chart(chart)
    if least.ends == ():
        raise NoTreadling()
    rows = {(-1, 0): [""]}
    for state, letter, target in least.moves:
        rows.setdefault((state, target), []).append(letter)
    for state in least.ends:
        rows[(state, least.states)] = [""]
    return choice_of(row_between(rows, list(range(least.states)), -1, least.states))


def loop_depth(script):
    """The greatest number of loops of which each stands within the one ahead of it."""
    depths = [0]
    for sign in script:
        if sign in ("(", ")"):
            depths.append(depths[-1] + (1 if sign == "(" else -1))
    return max(depths)


def reversed_script(script):
    """A script with the treadlings of a script, read from behind."""
    # rows[-1] is the row that is being read; ahead of it stand, for each choice that is begun, its rows so far.
    rows = [""]
    heads = []
    for sign in script:
        if sign in ("[", "("):
            heads.append(len(rows))
            rows.append("")
        elif sign == "|":
            rows.append("")
        elif sign in ("]", ")"):
            first = heads.pop()
            item = "[" + "|".join(rows[first:]) + "]" if sign == "]" else "(" + rows[first] + ")*"
            rows = [*rows[:first - 1], item + rows[first - 1]]
        elif sign != "*":
            rows[-1] = sign + rows[-1]
    return rows[0]
