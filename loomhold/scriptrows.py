"""Rows of scripts between the states of a chart, found by leaving out one state after the other."""


def choice_of(rows):
    """A row with the treadlings of one or more rows."""
    return rows[0] if len(rows) == 1 else "[" + "|".join(rows) + "]"


def loop_of(rows):
    """A row with any number of the treadlings of some rows, perhaps of none."""
    full = [row for row in rows if row != ""]
    return "(" + choice_of(full) + ")*" if full else ""


def row_between(rows, states, start, end):
    """The list of rows that lead from start to end when all states between are left out.

    rows has, for pairs of states, the list of the rows that lead from the one to the other.
    """
    left = list(states)
    while left:
        # Rows stand behind others once for each way through a state: the one that makes them longest waits longest.
        costs = [cost_of(rows, state) for state in left]
        state = left.pop(costs.index(min(costs)))
        rows = rows_past(rows, state)
    return rows[(start, end)]


def cost_of(rows, state):
    """How many signs are added if a state is left out."""
    return sum([len(row) for row in list_of_detours(rows, state)])


def list_of_detours(rows, state):
    """The rows of all ways through a state."""
    return [row for _, _, row in detours(rows, state)]


def detours(rows, state):
    """The tuples (place ahead, place behind, row) of all ways through a state."""
    loop = loop_of(rows.get((state, state), []))
    ahead = [(pair[0], choice_of(rows[pair])) for pair in rows if pair[1] == state and pair[0] != state]
    behind = [(pair[1], choice_of(rows[pair])) for pair in rows if pair[0] == state and pair[1] != state]
    return [(one, other, row + loop + further) for one, row in ahead for other, further in behind]


def rows_past(rows, state):
    """The rows between all other states when one is left out."""
    past = {pair: rows[pair] for pair in rows if state not in pair}
    for one, other, row in detours(rows, state):
        known = past.get((one, other), [])
        if row not in known:
            past[(one, other)] = [*known, row]
    return past
