"""What a stretch does to the threads: runs of single shafts, and the parts of two stretches joined."""


def run_of(sides):
    """The run (begin, end, up, down) of a shaft that is raised (True), or not, at the picks of a stretch."""
    lengths = [0]
    for side in sides:
        step = 1 if side else -1
        if lengths[-1] * step > 0:
            lengths[-1] = lengths[-1] + step
        else:
            lengths.append(step)
    begin = lengths[1] if len(lengths) > 1 else 0
    return (begin, lengths[-1], max(lengths), -min(lengths))


def is_one_run(run):
    """Tell whether a shaft has one side at all picks of a stretch, also where the run is cut off."""
    return run[2] == 0 or run[3] == 0


def sum_of_one_side(one, other):
    """Two lengths together if they tell of one side, otherwise 0."""
    return one + other if one * other > 0 else 0


def joined_run(one, other):
    """The run of a shaft at two stretches one behind the other."""
    if one[0] == 0 or other[0] == 0:
        return other if one[0] == 0 else one
    meeting = sum_of_one_side(one[1], other[0])
    begin = meeting if is_one_run(one) and meeting != 0 else one[0]
    end = meeting if is_one_run(other) and meeting != 0 else other[1]
    return (begin, end, max([one[2], other[2], meeting]), max([one[3], other[3], -meeting]))


def run_times(run, many):
    """The run of a shaft at so many stretches, one or more, one behind the other."""
    if is_one_run(run):
        return tuple([length * many for length in run])
    # With both sides in it, what meets between two of them meets between any two neighbours.
    return run if many == 1 else joined_run(run, run)


def joined_parts(one, other):
    """The pairs, loose and runs of two stretches one behind the other."""
    pairs = tuple(sorted(set(one[0]) | set(other[0])))
    loose = (one[1][0] or other[1][0], one[1][1] or other[1][1])
    runs = tuple([joined_run(run, further) for run, further in zip(one[2], other[2])])
    return (pairs, loose, runs)


def cut_parts(parts, top):
    """The pairs, loose and runs with all numbers of the runs cut off at top."""
    runs = tuple([tuple([max(-top, min(top, length)) for length in run]) for run in parts[2]])
    return (parts[0], parts[1], runs)


def do_parts_hold(loom, parts):
    """Tell whether a stretch with these parts, cut off or not, holds."""
    return len(loom.used) > 1 and True not in parts[1] and do_all_lead(loom.used, parts[0])


def do_all_lead(shafts, pairs):
    """Tell whether the pairs lead from each of some shafts to each other one."""
    led = {shafts[0]: True}
    leading = {shafts[0]: True}
    for _ in shafts:
        onward = {t: True for s, t in pairs if s in led and t in shafts}
        backward = {s: True for s, t in pairs if t in leading and s in shafts}
        led = {**led, **onward}
        leading = {**leading, **backward}
    return len(led) == len(shafts) and len(leading) == len(shafts)
