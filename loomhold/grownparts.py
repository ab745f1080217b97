"""What the generations of a growth are made of: how many letters, and what each letter becomes, level by level.

A level is how many generations a letter has been replaced: at the level n it has become its own generation n.
"""

from loomhold.elements import element_of


def counts_in(loom, treadling):
    """The tuple that has, for each letter of a loom, how often it stands in a treadling."""
    return tuple([treadling.count(letter) for letter in loom.letters])


def counts_at(growth, n):
    """The tuple that has, for each letter of the loom, how often it stands in a generation."""
    counts = counts_in(growth.loom, growth.start)
    rows = [counts_in(growth.loom, rule) for rule in growth.rules]
    for _ in range(n):
        counts = tuple([sum([many * row[place] for many, row in zip(counts, rows)]) for place in range(len(rows))])
    return counts


def grown_lengths(growth, n):
    """For each level up to n the dict of how many letters each letter has become."""
    levels = [{letter: 1 for letter in growth.loom.letters}]
    for _ in range(n):
        ahead = levels[-1]
        levels.append({letter: sum([ahead[further] for further in growth.rule_of(letter)]) for letter in ahead})
    return levels


def grown_words(growth, n, most):
    """For each level up to n the dict of what the letters have become, without those with more letters than most."""
    levels = [{letter: letter for letter in growth.loom.letters}]
    for lengths in grown_lengths(growth, n)[1:]:
        ahead = levels[-1]
        levels.append({letter: "".join([ahead[further] for further in growth.rule_of(letter)])
                       for letter in lengths if lengths[letter] <= most})
    return levels


def grown_elements(growth, n):
    """For each level up to n the dict of the elements of what the letters have become."""
    levels = [{letter: element_of(growth.loom, letter) for letter in growth.loom.letters}]
    for _ in range(n):
        ahead = levels[-1]
        levels.append({letter: joined_all(growth.loom, [ahead[further] for further in growth.rule_of(letter)])
                       for letter in ahead})
    return levels


def joined_all(loom, row):
    """The element of stretches with the elements of a list, one behind the other."""
    total = element_of(loom, "")
    for one in row:
        total = total + one
    return total


def pieces_between(growth, lengths, start, end):
    """The list of pairs (letter, level) whose own generations, one behind the other, are a stretch of a generation.

    lengths are those of each level up to the number of the generation. Each letter lies in the stretch with all that
    it has become, or outside, or its rule is told piece by piece in its place.
    """
    pieces = []
    waiting = [(growth.start, len(lengths) - 1, 0)]
    while waiting:
        word, level, place = waiting.pop()
        if word != "":
            behind = place + lengths[level][word[0]]
            waiting.append((word[1:], level, behind))
            if start <= place and behind <= end:
                pieces.append((word[0], level))
            elif place < end and start < behind:
                waiting.append((growth.rule_of(word[0]), level - 1, place))
    return pieces


def lengths_modulo(growth, n, modulus):
    """For each letter, in order, what the number of letters that it has become at a level leaves."""
    square = [counts_in(growth.loom, rule) for rule in growth.rules]
    lengths = [1] * len(square)
    # The matrix of one level is squared for each bit of n, and taken wherever a bit is set.
    while n > 0:
        if n % 2 == 1:
            lengths = [sum([many * length for many, length in zip(row, lengths)]) % modulus for row in square]
        square = squared(square, modulus)
        n = n // 2
    return lengths


def squared(rows, modulus):
    """The square of a matrix, of each number what it leaves."""
    columns = list(zip(*rows))
    return [[sum([one * other for one, other in zip(row, column)]) % modulus for column in columns] for row in rows]
