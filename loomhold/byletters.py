"""Levels and holding by the letters of a treadling alone."""

from loomhold.cloths import Cloth, pick_of
from loomhold.levels import does_hold, levels_of


def letter_cloth(loom, letters):
    """The cloth with a pick for each letter and an end for each used shaft."""
    return Cloth(tuple([pick_of(loom.used, loom.lift_of(letter)) for letter in letters]))


def letter_levels(loom, letters):
    """The tuple of the levels of the rows, from the top down."""
    names = {}
    for number, shaft in enumerate(loom.used):
        names[("end", number)] = ("shaft", shaft)
    for number, letter in enumerate(letters):
        names[("pick", number)] = ("letter", letter)
    levels = levels_of(letter_cloth(loom, letters))
    return tuple([tuple(sorted([names[strand] for strand in level])) for level in levels])


def do_hold(loom, letters):
    """Tell whether treadlings with just these letters hold; without letters they do not."""
    return letters != "" and does_hold(letter_cloth(loom, letters))


def letters_of(treadling):
    """The ascending string of the letters of a treadling."""
    return "".join(sorted(set(treadling)))
