"""Charts put together; all are told as least charts."""

from loomhold.chartpapers import least_chart
from loomhold.charts import Chart
from loomhold.exploring import explored, led_pair, letters_of_both, met_pairs


def both(one, other):
    """The chart of the treadlings of both."""
    return paired(one, other, lambda pair: -1 not in pair,
                  lambda pair: pair[0] in one.ends and pair[1] in other.ends)


def either(one, other):
    """The chart of the treadlings of one or the other."""
    return paired(one, other, lambda pair: pair != (-1, -1),
                  lambda pair: pair[0] in one.ends or pair[1] in other.ends)


def without(one, other):
    """The chart of the treadlings of the first one that the second one has not."""
    return paired(one, other, lambda pair: pair[0] != -1,
                  lambda pair: pair[0] in one.ends and pair[1] not in other.ends)


def paired(one, other, is_let, is_end):
    """The least chart whose states are the pairs that are let."""
    def step(pair, letter):
        further = led_pair(one, other, pair, letter)
        return further if is_let(further) else None

    return least_chart(explored(letters_of_both(one, other), (0, 0), step, is_end))


def one_behind(one, other):
    """The chart of each treadling of the first one with each of the second one behind it."""
    ahead = least_chart(one)
    behind = least_chart(other)
    ends = mask_of(behind.ends)

    # A key is the state in the first chart, -1 for none, and the set of states in the second one that can be meant.
    def key_at(state, mask):
        return (state, mask | 1) if state in ahead.ends else (state, mask)

    def step(key, letter):
        state = ahead.led(key[0], letter)
        further = key_at(-1 if state is None else state, led_mask(behind, key[1], letter))
        return further if further != (-1, 0) else None

    return least_chart(explored(letters_of_both(one, other), key_at(0, 0), step, lambda key: key[1] & ends != 0))


def again(chart):
    """The chart of any number of its treadlings one behind the other, none too."""
    least = least_chart(chart)
    ends = mask_of(least.ends)

    # The key -1 stands ahead of all letters: there the empty string is told, whether the state 0 is an end or not.
    def step(key, letter):
        mask = led_mask(least, 1 if key == -1 else key, letter)
        if mask == 0:
            return None
        return mask | 1 if mask & ends else mask

    return least_chart(explored(chart.letters, -1, step, lambda key: key == -1 or key & ends != 0))


def backward(chart):
    """The chart of the treadlings read from behind."""
    least = least_chart(chart)

    def step(mask, letter):
        ahead = [state for state, sign, target in least.moves if sign == letter and mask >> target & 1]
        return mask_of(ahead) if ahead else None

    return least_chart(explored(chart.letters, mask_of(least.ends), step, lambda mask: mask & 1 == 1))


def mask_of(states):
    """The set of some states, none twice, as an integer: bit k tells of the state k."""
    return sum([1 << state for state in states])


def led_mask(chart, mask, letter):
    """The set of the states to which a letter leads from those of a set."""
    further = 0
    for state, sign, target in chart.moves:
        if sign == letter and mask >> state & 1:
            further = further | 1 << target
    return further


def is_part(one, other):
    """Tell whether each treadling of the first chart is one of the second one."""
    pairs = met_pairs(one, other)
    return all([pair[1] in other.ends for pair in pairs if pair[0] in one.ends])


def alone(letters, word):
    """The least chart over some letters with just this treadling."""
    moves = [(state, letter, state + 1) for state, letter in enumerate(word)]
    return Chart(letters, len(word) + 1, tuple(moves), (len(word),))
