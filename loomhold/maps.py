"""Maps of generations: for each letter of the loom the element, cut off, of what it has become."""

from loomhold.elements import element_of, joined_capped


def first_map(loom, top):
    """The map of generation 0."""
    return tuple([element_of(loom, letter).cut_off(top) for letter in loom.letters])


def parts_along(loom, treadling, one, top):
    """The cut off element of a treadling whose letters have become what a map tells."""
    parts = element_of(loom, "").cut_off(top)
    for letter in treadling:
        parts = joined_capped(loom, parts, one[loom.letters.index(letter)], top)
    return parts


def next_map(growth, one, top):
    """The map of the generation behind that of a map."""
    return tuple([parts_along(growth.loom, rule, one, top) for rule in growth.rules])


def grown_parts(growth, one, top):
    """The cut off element of the generation of a map."""
    return parts_along(growth.loom, growth.start, one, top)


def maps_met(growth, top, most):
    """The list of the maps of the generations from 0 on until one comes again, at most so many of them.

    With it the number of the one that comes again next; None if none has so far.
    """
    numbers = {}
    one = first_map(growth.loom, top)
    while one not in numbers and len(numbers) < most:
        numbers[one] = len(numbers)
        one = next_map(growth, one, top)
    return list(numbers), numbers.get(one)


def place_in_round(row, first, n):
    """The place in a row that comes round, from the place `first` on, of what stands for a number n."""
    return n if n < len(row) else first + (n - first) % (len(row) - first)
