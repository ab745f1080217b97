"""Texts of rolls, written and read."""

from loomhold.kinds import LETTERS
from loomhold.texts import number_of

FIGURES = "0123456789"
# No number of times has more figures than 10 ** 30.
MOST_FIGURES = 31


def text_of_items(roll):
    """The text of a roll."""
    return " ".join([text_of_item(item) for item in roll]) if roll else "-"


def text_of_item(item):
    """The text of an item."""
    return item if isinstance(item, str) else f"{item[0]}({text_of_items(item[1])})"


def items_read(text, start, depth):
    """The roll that a text tells from a place on, with the place behind it; None with a place if it tells none.

    At most so many pairs stand one within the other.
    """
    if text[start:start + 1] == "-":
        return (), start + 1
    item, place = item_read(text, start, depth)
    items = [item]
    while item is not None and text[place:place + 1] == " ":
        item, place = item_read(text, place + 1, depth)
        items.append(item)
    return (None if item is None else tuple(items)), place


def item_read(text, start, depth):
    """The item that a text tells from a place on, with the place behind it; None with a place if it tells none."""
    place = place_past(text, start, LETTERS)
    if place > start:
        return text[start:place], place
    place = place_past(text, start, FIGURES)
    times = number_of(text[start:place])
    if depth == 0 or place - start > MOST_FIGURES or times == -1 or text[place:place + 1] != "(":
        return None, place
    roll, place = items_read(text, place + 1, depth - 1)
    if roll is None or text[place:place + 1] != ")":
        return None, place
    return (times, roll), place + 1


def place_past(text, start, signs):
    """The first place from start on at which none of some signs stands."""
    place = start
    while place < len(text) and text[place] in signs:
        place += 1
    return place
