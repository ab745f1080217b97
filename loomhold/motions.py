"""Motions: turns and moves of patterns, one behind the other, back, and what they do to cloths and strands."""

from loomhold.cloths import Cloth
from loomhold.kinds import is_ascending, is_int, is_string_over
from loomhold.periods import periods_of, shifted_rows, turned_rows

TURN_LETTERS = "epsw"
# All turns, in order.
TURNS = ("", "e", "ep", "eps", "epsw", "epw", "es", "esw", "ew", "p", "ps", "psw", "pw", "s", "sw", "w")


def is_turn(thing):
    """Tell whether any value is a turn."""
    return is_string_over(thing, TURN_LETTERS) and is_ascending(thing)


def is_motion(thing):
    """Tell whether any value is a motion."""
    if not isinstance(thing, tuple) or len(thing) != 3:
        return False
    return is_turn(thing[0]) and is_int(thing[1]) and is_int(thing[2])


def turn_of(letters):
    """The turn of those letters that stand an odd number of times in a string."""
    return "".join([letter for letter in TURN_LETTERS if letters.count(letter) % 2 == 1])


def exchanged_turn(turn):
    """A turn where warps have become wefts: ends are mirrored as picks were, and picks as ends were."""
    exchanged = turn.replace("e", "").replace("p", "")
    if "e" in turn:
        exchanged = exchanged + "p"
    if "p" in turn:
        exchanged = exchanged + "e"
    return turn_of(exchanged)


def place_led(turn, down, across):
    """Where a turn leads the crossing that was at the pick `down` and at the end `across`."""
    if "w" in turn:
        down, across = across, down
    return (-down if "p" in turn else down, -across if "e" in turn else across)


def behind(one, other):
    """The motion that does what one does and then what other does."""
    turn, down, across = other
    ahead = exchanged_turn(one[0]) if "w" in turn else one[0]
    led = place_led(turn, one[1], one[2])
    return (turn_of(ahead + turn), led[0] + down, led[1] + across)


def back_of(motion):
    """The motion that leads back."""
    turn, down, across = motion
    # Turns without w lead back themselves; with w what is mirrored behind it was mirrored across ahead of it.
    way = exchanged_turn(turn) if "w" in turn else turn
    led = place_led(way, -down, -across)
    return (way, led[0], led[1])


def moved(cloth, motion):
    """The cloth to which a motion leads the pattern of a cloth, with as many picks and ends (exchanged by w)."""
    turn, down, across = motion
    return Cloth(shifted_rows(turned_rows(list(cloth.picks), turn), down, across))


def strand_led(cloth, motion, strand):
    """The strand of the ground of the moved cloth to which a strand of the ground is led."""
    return led_strand(periods_of(moved(cloth, motion)), motion, strand)


def led_strand(periods, motion, strand):
    """The strand to which a strand is led, where the pattern that is led to has these periods."""
    turn, down, across = motion
    sort, number = strand
    if "w" in turn:
        sort = "pick" if sort == "end" else "end"
    if sort == "end":
        return ("end", ((-number if "e" in turn else number) + across) % periods[1])
    return ("pick", ((-number if "p" in turn else number) + down) % periods[0])
