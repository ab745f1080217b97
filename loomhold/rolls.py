"""Rolls: treadlings with repeats, perhaps very long ones, and their texts."""

from loomhold.errors import BadPlace, BadRoll, BadText, TooLong
from loomhold.kinds import is_number_below
from loomhold.looms import is_treadling
from loomhold.rollparts import (
    blocks_of, check_stretch, element_within, first_apart, letter_within, picks_within, piece_within, treadling_within)
from loomhold.rolltexts import items_read, text_of_items

MOST_TIMES = 10 ** 30
MOST_DEEP = 12


def is_roll(loom, thing):
    """Tell whether any value is a roll of the loom."""
    return is_roll_within(loom, thing, MOST_DEEP)


def is_roll_within(loom, thing, depth):
    """Tell whether any value is a roll with at most so many pairs one within the other."""
    return isinstance(thing, tuple) and all([is_item(loom, item, depth) for item in thing])


def is_item(loom, thing, depth):
    """Tell whether any value is an item of such a roll."""
    if isinstance(thing, str):
        return thing != "" and is_treadling(loom, thing)
    if depth == 0 or not isinstance(thing, tuple) or len(thing) != 2:
        return False
    return is_number_below(thing[0], MOST_TIMES + 1) and is_roll_within(loom, thing[1], depth - 1)


def check_roll(loom, thing):
    """Raise BadRoll for any value that is no roll of the loom."""
    if not is_roll(loom, thing):
        raise BadRoll(thing)


def picks_of(loom, roll):
    """How many picks a roll has."""
    check_roll(loom, roll)
    return picks_within(roll)


def treadle_at(loom, roll, place):
    """The letter of the pick at a place of a roll."""
    check_roll(loom, roll)
    if not is_number_below(place, picks_within(roll)):
        raise BadPlace(place)
    return letter_within(roll, place)


def stretch(loom, roll, start, end):
    """A roll that stands for the stretch from start up to, without, end."""
    check_roll(loom, roll)
    check_stretch(picks_within(roll), start, end)
    return tuple(piece_within(roll, start, end))


def element_of_roll(loom, roll):
    """The element of a roll."""
    check_roll(loom, roll)
    return element_within(loom, roll)


def treadling_of(loom, roll, *, most=2000):
    """The treadling of a roll; TooLong(most) if it has more letters than most."""
    check_roll(loom, roll)
    if picks_within(roll) > most:
        raise TooLong(most)
    return treadling_within(roll)


def first_pick_apart(loom, one, other):
    """The least place at which two flat rolls have unlike letters, or at which one ends alone; None if alike."""
    check_roll(loom, one)
    check_roll(loom, other)
    return first_apart(blocks_of(one), blocks_of(other))


def text_of_roll(loom, roll):
    """The text of a roll."""
    check_roll(loom, roll)
    return text_of_items(roll)


def roll_read(loom, text):
    """The roll of the loom with a text; BadText(0) for any value that is the text of none."""
    if not isinstance(text, str):
        raise BadText(0)
    roll, behind = items_read(text, 0, MOST_DEEP)
    if behind != len(text) or not is_roll(loom, roll):
        raise BadText(0)
    return roll
