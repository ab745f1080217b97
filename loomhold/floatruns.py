"""The first longest run of one shaft in a stretch, told from those of its parts.

A stretch is told by a tuple (picks, begin, end, longest, start): how many picks it has; the runs at its beginning and
at its end, less than 0 where the shaft is not raised; and the first of its longest runs, likewise, with its place.
"""

from loomhold.stretches import sum_of_one_side

NO_PICKS = (0, 0, 0, 0, 0)


def longest_in_roll(loom, shaft, roll):
    """The first longest run of a shaft in a roll: its length, less than 0 if it is not raised, and its place."""
    return told_of_roll(loom, shaft, roll)[3:]


def told_of_roll(loom, shaft, roll):
    """What is told of a shaft in a roll."""
    told = NO_PICKS
    for item in roll:
        if isinstance(item, str):
            told = joined_told(told, told_of_word(loom, shaft, item))
        else:
            told = joined_told(told, told_times(told_of_roll(loom, shaft, item[1]), item[0]))
    return told


def told_of_word(loom, shaft, word):
    """What is told of a shaft in a string of letters."""
    told = NO_PICKS
    for letter in word:
        step = 1 if shaft in loom.lift_of(letter) else -1
        told = joined_told(told, (1, step, step, step, 0))
    return told


def joined_told(one, other):
    """What is told of two stretches one behind the other."""
    if one[0] == 0 or other[0] == 0:
        return other if one[0] == 0 else one
    meeting = sum_of_one_side(one[2], other[1])
    begin = meeting if meeting != 0 and abs(one[1]) == one[0] else one[1]
    end = meeting if meeting != 0 and abs(other[2]) == other[0] else other[2]
    # The places ascend, and of several that are greatest max takes the first.
    rows = [(one[3], one[4]), (meeting, one[0] - abs(one[2])), (other[3], one[0] + other[4])]
    longest, start = max(rows, key=lambda row: abs(row[0]))
    return (one[0] + other[0], begin, end, longest, start)


def told_times(one, many):
    """What is told of so many stretches, one behind the other."""
    picks, begin, end, longest, start = one
    if many == 0:
        return NO_PICKS
    if abs(begin) == picks:
        return (picks * many, begin * many, end * many, longest * many, 0)
    if many > 1:
        # With both sides in it, what meets between two of them meets between the first two.
        _, _, _, longest, start = joined_told(one, one)
    return (picks * many, begin, end, longest, start)
