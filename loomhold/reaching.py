"""What leads to what, by steps one behind the other."""


def closed(masks):
    """For each number the set of those to which it leads by one step or more.

    A set is an integer whose bit k tells of the number k; masks tell the single steps.
    """
    rows = list(masks)
    for through in range(len(rows)):
        for number in range(len(rows)):
            if rows[number] >> through & 1:
                rows[number] = rows[number] | rows[through]
    return rows


def reached(starts, steps):
    """The dict, with True for each, of all that is come to from some starts, those too; steps are lists by number."""
    found = {start: True for start in starts}
    queue = list(starts)
    while queue:
        here = queue.pop()
        for number in steps.get(here, []):
            if number not in found:
                found[number] = True
                queue.append(number)
    return found


def way_to(steps, start, goals):
    """A shortest row of what is come to from a start, without the start itself, that ends with one of the goals."""
    ahead = {start: None}
    queue = [start]
    at = 0
    while queue[at] not in goals:
        here = queue[at]
        for further in steps[here]:
            if further not in ahead:
                ahead[further] = here
                queue.append(further)
        at += 1
    way = [queue[at]]
    while ahead[way[-1]] is not None:
        way.append(ahead[way[-1]])
    return way[-2::-1]
