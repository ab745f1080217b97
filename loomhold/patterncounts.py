"""How many kinds of cloths there are if those are of one kind that motions with some turns lead to one another."""

from loomhold.kinds import is_ascending
from loomhold.motions import behind, is_turn, place_led
from loomhold.periods import shifted_rows, turned_rows

SIGNS_IN_ORDER = "-x"


def turn_behind(one, other):
    """The turn of a motion with one turn and of one with another turn behind it."""
    return behind((one, 0, 0), (other, 0, 0))[0]


def is_group(thing):
    """Tell whether any value is a group of turns."""
    if not isinstance(thing, tuple) or not all([is_turn(item) for item in thing]) or not is_ascending(thing):
        return False
    return "" in thing and all([turn_behind(one, other) in thing for one in thing for other in thing])


def group_of(turns):
    """The group of fewest turns that has all of some turns."""
    group = ()
    further = tuple(sorted(set(["", *turns])))
    # Some turn, again and again, is the empty one at last: so what is closed has the turns that lead back, too.
    while further != group:
        group = further
        further = tuple(sorted({turn_behind(one, other) for one in group for other in group}))
    return group


def number_of_kinds(picks, ends, turns):
    """The number of kinds of cloths with so many picks and ends, for a group of turns."""
    motions = [(turn, down, across) for turn in turns for down in range(picks) for across in range(ends)]
    return sum([many_kept(picks, ends, motion) for motion in motions]) // len(motions)


def many_kept(picks, ends, motion):
    """How many cloths of a size a motion leads to themselves."""
    turn = motion[0]
    is_exchanging = ("s" in turn) != ("w" in turn)
    led = crossings_led(picks, ends, motion)
    seen = {}
    rings = 0
    for crossing in led:
        length = 0
        here = crossing
        while here not in seen:
            seen[here] = True
            here = led[here]
            length += 1
        if length % 2 == 1 and is_exchanging:
            return 0
        if length > 0:
            rings += 1
    return 1 << rings


def crossings_led(picks, ends, motion):
    """For each crossing of a size the one to which a motion leads it."""
    turn, down, across = motion
    led = {}
    for pick in range(picks):
        for end in range(ends):
            place = place_led(turn, pick, end)
            led[(pick, end)] = ((place[0] + down) % picks, (place[1] + across) % ends)
    return led


def rows_of_signs(many):
    """The ascending list of all strings of so many signs."""
    rows = [""]
    for _ in range(many):
        rows = [row + sign for row in rows for sign in SIGNS_IN_ORDER]
    return rows


def all_picks(picks, ends):
    """The ascending list of the tuples of picks of all cloths of a size."""
    found = [()]
    for _ in range(picks):
        found = [(*ahead, row) for ahead in found for row in rows_of_signs(ends)]
    return found


def representatives(picks, ends, turns):
    """The ascending tuple of the tuples of picks of all representatives."""
    found = []
    seen = {}
    for row in all_picks(picks, ends):
        if row not in seen:
            found.append(row)
            for turn in turns:
                rows = turned_rows(list(row), turn)
                for down in range(picks):
                    for across in range(ends):
                        seen[shifted_rows(rows, down, across)] = True
    return tuple(found)


def with_periods(picks, ends):
    """How many cloths have so many picks and ends, and just these periods."""
    sizes = [(down, across) for down in divisors_of(picks) for across in divisors_of(ends)]
    many = {}
    # Each cloth with these signs has some periods, which divide the size: all but one of those pairs come ahead of it.
    for down, across in sizes:
        less = [many[size] for size in many if down % size[0] == 0 and across % size[1] == 0]
        many[(down, across)] = (1 << down * across) - sum(less)
    return many[(picks, ends)]


def divisors_of(many):
    """The ascending list of the divisors of a number from 1 on."""
    return [part for part in range(1, many + 1) if many % part == 0]
