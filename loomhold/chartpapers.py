"""Whether two charts are alike, the papers of it, and least charts."""

from loomhold.charts import Chart, has_treadling, useful_states
from loomhold.exploring import explored, led_pair, letters_of_both, met_pairs
from loomhold.kinds import is_ascending, is_int, is_paper


def are_alike(one, other):
    """Tell whether two charts have the same treadlings."""
    return first_parting(one, other) is None


def first_parting(one, other):
    """The first treadling of just one of two charts, None if they are alike."""
    words = met_pairs(one, other)
    for pair in words:
        if not is_even(one, other, pair):
            return words[pair]
    return None


def is_even(one, other, pair):
    """Tell whether both states of a pair are ends, or none; -1 is no end."""
    return (pair[0] in one.ends) == (pair[1] in other.ends)


def judge_alike(one, other):
    """A paper that two charts are alike, or of the first treadling that parts them."""
    word = first_parting(one, other)
    if word is not None:
        return ("parted", word)
    return ("alike", tuple(sorted(list(met_pairs(one, other)))))


def alike_holds(one, other, thing):
    """Tell whether any value is a paper for two charts."""
    if is_paper(thing, "parted", 2):
        return has_treadling(one, thing[1]) != has_treadling(other, thing[1])
    if not is_paper(thing, "alike", 2) or not isinstance(thing[1], tuple):
        return False
    return are_pairs(one, other, thing[1])


def are_pairs(one, other, row):
    """Tell whether any tuple is one of pairs as a paper "alike" has it."""
    if not all([is_pair(one, other, item) for item in row]) or not is_ascending(row):
        return False
    found = {pair: True for pair in row}
    if (0, 0) not in found or not all([is_even(one, other, pair) for pair in row]):
        return False
    letters = letters_of_both(one, other)
    led = [led_pair(one, other, pair, letter) for pair in row for letter in letters]
    return all([pair in found for pair in led if pair != (-1, -1)])


def is_pair(one, other, thing):
    """Tell whether any value is a pair of states of two charts, -1 standing for none, not for both."""
    if not isinstance(thing, tuple) or len(thing) != 2 or not is_int(thing[0]) or not is_int(thing[1]):
        return False
    return -1 <= thing[0] < one.states and -1 <= thing[1] < other.states and thing != (-1, -1)


def least_chart(chart):
    """The chart with the same letters and treadlings and as few states as can be."""
    kinds = kinds_of_states(chart)
    if 0 not in kinds:
        return Chart(chart.letters, 1, (), ())
    members = {kinds[state]: state for state in kinds}
    return explored(
        chart.letters, kinds[0],
        lambda kind, letter: kinds.get(chart.led(members[kind], letter)),
        lambda kind: members[kind] in chart.ends)


def kinds_of_states(chart):
    """For each useful state the number of its kind: states of one kind have the same strings that lead to ends."""
    useful = useful_states(chart)
    kinds = {state: 1 if state in chart.ends else 0 for state in useful}
    many = 0
    # States of one kind are parted, round by round, until a round parts none.
    while len(set(list(kinds.values()))) > many:
        many = len(set(list(kinds.values())))
        marks = {state: mark_of(chart, kinds, state) for state in useful}
        numbers = {}
        for state in useful:
            numbers.setdefault(marks[state], len(numbers))
        kinds = {state: numbers[marks[state]] for state in useful}
    return kinds


def mark_of(chart, kinds, state):
    """The kind of a state and, for each letter, that of the useful state to which it leads, -1 where there is none."""
    return (kinds[state], tuple([kinds.get(chart.led(state, letter), -1) for letter in chart.letters]))


def is_least_chart(chart):
    """Tell whether a chart is its own least one."""
    return chart == least_chart(chart)
