"""Ways by letters: dicts that have, for each key, the list of pairs (letter, key) of its single steps, in order."""

from loomhold.reaching import reached


def first_words(ways, start):
    """For each key that is come to from a start the first string that leads there, in the order of these strings."""
    words = {start: ""}
    queue = [start]
    at = 0
    while at < len(queue):
        here = queue[at]
        for letter, key in ways.get(here, []):
            if key not in words:
                words[key] = words[here] + letter
                queue.append(key)
        at += 1
    return words


def first_word_to(ways, start, goals):
    """The first string that leads from a start to one of some keys, None if none does."""
    words = first_words(ways, start)
    for key in words:
        if key in goals:
            return words[key]
    return None


def keys_ahead(ways):
    """For each key to which a step leads the list of the keys from which one does."""
    ahead = {}
    for key in ways:
        for _, further in ways[key]:
            ahead.setdefault(further, []).append(key)
    return ahead


def numbers_left(ways, goals):
    """For each key how many letters can still lead to a goal, at most; -1 if none can.

    Keys from which ever longer strings do are left out. All keys of steps have to be keys of the dict.
    """
    ahead = keys_ahead(ways)
    live = reached(goals, ahead)
    numbers = {key: -1 for key in ways if key not in live}
    # A key is told as soon as all live ones to which it steps are: those on rings, or ahead of these, never are.
    untold = {key: len([further for _, further in ways[key] if further in live]) for key in live}
    queue = [key for key in live if untold[key] == 0]
    at = 0
    while at < len(queue):
        here = queue[at]
        numbers[here] = max([0, *[numbers[key] + 1 for _, key in ways[here]]])
        for key in ahead.get(here, []):
            untold[key] = untold[key] - 1
            if untold[key] == 0:
                queue.append(key)
        at += 1
    return numbers


def ring_from(ways, numbers, start):
    """A key, with a string, not empty, by which it leads to itself, for a start that numbers_left has left out."""
    row = [start]
    word = ""
    while row[-1] not in row[:-1]:
        # What was left out steps to something that was left out, too.
        letter, key = [step for step in ways[row[-1]] if step[1] not in numbers][0]
        row.append(key)
        word = word + letter
    return row[-1], word[row.index(row[-1]):]
