"""What the functions of rolls and beams share: all of these take tuples of items that are known to be rolls."""

from loomhold.byletters import letters_of
from loomhold.elements import element_of
from loomhold.errors import BadPlace
from loomhold.kinds import is_number_below


def picks_within(roll):
    """How many picks a roll has."""
    return sum([picks_of_item(item) for item in roll])


def picks_of_item(item):
    """How many picks an item of a roll has."""
    return len(item) if isinstance(item, str) else item[0] * picks_within(item[1])


def letter_within(roll, place):
    """The letter of the pick at a place at which one stands."""
    for item in roll:
        picks = picks_of_item(item)
        if place < picks:
            return item[place] if isinstance(item, str) else letter_within(item[1], place % (picks // item[0]))
        place = place - picks


def piece_within(roll, start, end):
    """The list of items, each with a pick or more, that stand for a stretch."""
    pieces = []
    for item in roll:
        picks = picks_of_item(item)
        if max(0, start) < min(picks, end):
            pieces.extend(piece_of_item(item, max(0, start), min(picks, end)))
        start = start - picks
        end = end - picks
    return pieces


def piece_of_item(item, start, end):
    """The list of items that stand for a stretch, with a pick or more, of an item."""
    if isinstance(item, str):
        return [item[start:end]]
    picks = picks_within(item[1])
    if start // picks == end // picks:
        return piece_within(item[1], start % picks, end % picks)
    ahead = piece_within(item[1], start % picks, picks) if start % picks > 0 else []
    whole = end // picks - (start + picks - 1) // picks
    middle = [(whole, item[1])] if whole > 0 else []
    return [*ahead, *middle, *piece_within(item[1], 0, end % picks)]


def element_within(loom, roll):
    """The element of a roll."""
    total = element_of(loom, "")
    for item in roll:
        if isinstance(item, str):
            total = total + element_of(loom, item)
        else:
            total = total + element_within(loom, item[1]).times(item[0])
    return total


def treadling_within(roll):
    """The treadling of a roll, written out."""
    return "".join([treadling_of_item(item) for item in roll])


def treadling_of_item(item):
    """The treadling of an item, written out."""
    if isinstance(item, str):
        return item
    # Without picks nothing is repeated, however often, and nothing within it is written out.
    return treadling_within(item[1]) * item[0] if picks_of_item(item) > 0 else ""


def full_roll(roll):
    """The roll without all items, at any depth, that have no picks."""
    full = [item for item in roll if picks_of_item(item) > 0]
    return tuple([item if isinstance(item, str) else (item[0], full_roll(item[1])) for item in full])


def letters_within(roll):
    """The ascending string of the letters of a roll's treadling."""
    words = [item if isinstance(item, str) else letters_within(item[1]) for item in roll if picks_of_item(item) > 0]
    return letters_of("".join(words))


def check_stretch(picks, start, end):
    """Raise BadPlace with the first of two values that is no place of a roll, or with end if it is below start."""
    if not is_number_below(start, picks + 1):
        raise BadPlace(start)
    if not is_number_below(end, picks + 1) or end < start:
        raise BadPlace(end)


def blocks_of(roll):
    """A flat roll as a list of pairs (word, times) with one or more letters and times each."""
    full = [item for item in roll if picks_of_item(item) > 0]
    return [(item, 1) if isinstance(item, str) else (treadling_within(item[1]), item[0]) for item in full]


def first_apart(one, other):
    """The least place at which two lists of blocks have unlike letters, or one ends alone; None if there is none."""
    place = 0
    here = (0, 0)
    there = (0, 0)
    while here[0] < len(one) and there[0] < len(other):
        word, letters = word_left(one, here)
        other_word, other_letters = word_left(other, there)
        picks = min(letters, other_letters)
        apart = apart_in_words(word, other_word, picks)
        if apart is not None:
            return place + apart
        place = place + picks
        here = place_behind(one, here, picks)
        there = place_behind(other, there, picks)
    return None if here[0] == len(one) and there[0] == len(other) else place


def word_left(blocks, here):
    """The word of a block as it is read on from a place (number of the block, letters of it that are behind).

    With it the number of the letters that are left of the block.
    """
    word, times = blocks[here[0]]
    turn = here[1] % len(word)
    return word[turn:] + word[:turn], len(word) * times - here[1]


def place_behind(blocks, here, picks):
    """The place so many letters behind a place in the same block; behind its last letter stands the next block."""
    word, times = blocks[here[0]]
    behind = here[1] + picks
    return (here[0], behind) if behind < len(word) * times else (here[0] + 1, 0)


def apart_in_words(word, other_word, picks):
    """The least place below picks at which two words, each again and again, have unlike letters; None without one.

    Two powers that agree on as many letters as both words have together agree for ever (Fine, Wilf).
    """
    for place in range(min(picks, len(word) + len(other_word))):
        if word[place % len(word)] != other_word[place % len(other_word)]:
            return place
    return None
