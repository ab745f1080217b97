"""Charts made by going from one key to the next, and pairs of states of two charts."""

from loomhold.charts import Chart


def explored(letters, start, step, is_end):
    """The chart of the keys that are come to from a start.

    step(key, letter) is the next key, None where there is no move; is_end(key) tells whether a key is an end. The
    states are numbered in the order of the first strings that lead to them.
    """
    numbers = {start: 0}
    queue = [start]
    moves = []
    at = 0
    while at < len(queue):
        for letter in letters:
            key = step(queue[at], letter)
            if key is not None:
                if key not in numbers:
                    numbers[key] = len(queue)
                    queue.append(key)
                moves.append((at, letter, numbers[key]))
        at += 1
    ends = [number for number, key in enumerate(queue) if is_end(key)]
    return Chart(letters, len(queue), tuple(moves), tuple(ends))


def letters_of_both(one, other):
    """The ascending string of the letters of two charts."""
    return "".join(sorted(set(one.letters) | set(other.letters)))


def led_pair(one, other, pair, letter):
    """The pair to which a letter leads from a pair of states of two charts, -1 standing where there is none."""
    state = one.led(pair[0], letter)
    other_state = other.led(pair[1], letter)
    return (-1 if state is None else state, -1 if other_state is None else other_state)


def met_pairs(one, other):
    """For each pair to which strings lead from (0, 0), in their order, the first of these; without (-1, -1)."""
    letters = letters_of_both(one, other)
    words = {(0, 0): ""}
    queue = [(0, 0)]
    at = 0
    while at < len(queue):
        here = queue[at]
        for letter in letters:
            pair = led_pair(one, other, here, letter)
            if pair != (-1, -1) and pair not in words:
                words[pair] = words[here] + letter
                queue.append(pair)
        at += 1
    return words
