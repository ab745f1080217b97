"""Bars of a cloth as sets of crossings: the greatest ones, fewest covers by them, and crossings that are apart.

A cloth is told by rows here: for each pick the set of the ends that lie above it. Sets are integers: bit k of a set of
picks, of ends or of crossings tells of the pick k, the end k, or the crossing k in the list of all with the end above.
"""


def rows_of(picks):
    """For each pick the set of the ends that lie above it."""
    return [mask_of_places([end for end, sign in enumerate(pick) if sign == "x"]) for pick in picks]


def mask_of_places(places):
    """The set of some places, none twice."""
    return sum([1 << place for place in places])


def places_in(mask):
    """The ascending list of what a set has."""
    return [place for place in range(mask.bit_length()) if mask >> place & 1]


def greatest_bars(rows):
    """The list of all bars (set of picks, set of ends) to which no pick and no end can be added."""
    known = {}
    for row in rows:
        met = [row, *[row & other for other in known]]
        known = {**known, **{ends: True for ends in met if ends != 0}}
    return [(picks_with(rows, ends), ends) for ends in known]


def picks_with(rows, ends):
    """The set of the picks below all ends of a set."""
    return mask_of_places([pick for pick, row in enumerate(rows) if row & ends == ends])


def crossings_above(rows):
    """The ascending list of all crossings with the end above."""
    return [(pick, end) for pick, row in enumerate(rows) for end in places_in(row)]


def fewest_greatest(rows):
    """The list of greatest bars, as few as can be, that cover all crossings with the end above."""
    crossings = crossings_above(rows)
    bars = {}
    for picks, ends in greatest_bars(rows):
        bars[mask_of_places([number for number, (pick, end) in enumerate(crossings)
                             if picks >> pick & ends >> end & 1])] = (picks, ends)
    found = None
    most = len(apart_from(rows, 0, []))
    while found is None:
        found = cover_within(list(bars), (1 << len(crossings)) - 1, most)
        most += 1
    return [bars[mask] for mask in found]


def cover_within(masks, left, most):
    """The list of at most so many of some sets that have together all that is left; None if there is none."""
    if left == 0:
        return []
    sizes = {mask: len(places_in(mask & left)) for mask in masks if mask & left}
    if len(places_in(left)) > most * max(list(sizes.values())):
        return None
    # One of the sets has to have this crossing, whichever it is: where the fewest have it least has to be tried.
    choices = [[mask for mask in sizes if mask >> place & 1] for place in places_in(left)]
    fewest = min([len(row) for row in choices])
    choice = [row for row in choices if len(row) == fewest][0]
    for _, chosen in sorted([(-sizes[mask], mask) for mask in choice]):
        found = cover_within(list(sizes), left & ~chosen, most - 1)
        if found is not None:
            return [chosen, *found]
    return None


def are_two_apart(rows, one, other):
    """Tell whether no bar has both of two crossings with the end above."""
    return not rows[one[0]] >> other[1] & rows[other[0]] >> one[1] & 1


def apart_from(rows, pick, chosen):
    """The longest list of crossings, any two apart, that begins with those that are chosen ahead of a pick."""
    if pick == len(rows):
        return chosen
    best = apart_from(rows, pick + 1, chosen)
    for end in places_in(rows[pick]):
        # No two at one pick are apart: so each further pick has one more at most.
        if len(best) < len(chosen) + len(rows) - pick and all(
                [are_two_apart(rows, one, (pick, end)) for one in chosen]):
            found = apart_from(rows, pick + 1, [*chosen, (pick, end)])
            best = found if len(found) > len(best) else best
    return best
