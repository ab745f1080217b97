"""Looms: shafts, the threading of the ends, and a lift for each treadle."""

from loomhold.errors import BadLoom, BadText
from loomhold.kinds import LETTERS, is_int, is_number_below, is_string_over, is_tuple_below
from loomhold.texts import line_of, lines_of, number_of, numbers_of, words_behind

MOST_SHAFTS = 99


class Loom:
    """A loom; it is made once and then never changed."""

    def __init__(self, shafts, threading, lifts):
        if not is_shaft_count(shafts):
            raise BadLoom("shafts")
        if not is_threading(threading, shafts):
            raise BadLoom("threading")
        if not isinstance(lifts, tuple) or not 1 <= len(lifts) <= len(LETTERS):
            raise BadLoom("lifts")
        for number, lift in enumerate(lifts):
            if not is_tuple_below(lift, shafts):
                raise BadLoom(number)
        self.shafts = shafts
        self.threading = threading
        self.lifts = lifts
        self.letters = LETTERS[:len(lifts)]
        self.used = tuple(sorted(set(threading)))

    def __len__(self):
        return len(self.threading)

    def __eq__(self, other):
        return (isinstance(other, Loom) and self.shafts == other.shafts
                and self.threading == other.threading and self.lifts == other.lifts)

    def __str__(self):
        return "\n".join(loom_lines(self))

    @classmethod
    def read(cls, text):
        """The loom with a text."""
        lines = lines_of(text)
        shafts = shafts_read(lines)
        threading = threading_read(lines, shafts)
        return cls(shafts, threading, lifts_read(lines, shafts))

    def lift_of(self, letter):
        """The lift of a treadle."""
        return self.lifts[LETTERS.index(letter)]

    def with_lift(self, letter, lift):
        """The loom in which a treadle has another lift."""
        place = LETTERS.index(letter)
        return Loom(self.shafts, self.threading, (*self.lifts[:place], lift, *self.lifts[place + 1:]))

    def threaded(self, threading):
        """The loom with another threading."""
        return Loom(self.shafts, threading, self.lifts)


def is_shaft_count(thing):
    """Tell whether a loom can have so many shafts."""
    return is_int(thing) and 1 <= thing <= MOST_SHAFTS


def is_threading(thing, shafts):
    """Tell whether a value is a tuple of one or more shafts."""
    if not isinstance(thing, tuple) or thing == ():
        return False
    return all([is_number_below(item, shafts) for item in thing])


def loom_lines(loom):
    """The lines of the text of a loom."""
    lifts = [line_of("lift " + letter, lift) for letter, lift in zip(loom.letters, loom.lifts)]
    return [line_of("shafts", [loom.shafts]), line_of("threading", loom.threading), *lifts]


def shafts_read(lines):
    """The number of shafts that the first line of a loom's text tells."""
    words = words_behind(lines, 1, "shafts")
    if len(words) != 1 or not is_shaft_count(number_of(words[0])):
        raise BadText(1)
    return number_of(words[0])


def threading_read(lines, shafts):
    """The threading that the second line of a loom's text tells."""
    threading = numbers_of(words_behind(lines, 2, "threading"))
    if not is_threading(threading, shafts):
        raise BadText(2)
    return threading


def lifts_read(lines, shafts):
    """The lifts that the lines behind the second one tell, one or more."""
    last = max(3, len(lines))
    return tuple([lift_read(lines, number, shafts) for number in range(3, last + 1)])


def lift_read(lines, number, shafts):
    """The lift that a line of a loom's text tells; the third line is that of the treadle a."""
    words = words_behind(lines, number, "lift")
    place = number - 3
    if place >= len(LETTERS) or words[:1] != [LETTERS[place]]:
        raise BadText(number)
    lift = numbers_of(words[1:])
    if not is_tuple_below(lift, shafts):
        raise BadText(number)
    return lift


def is_treadling(loom, thing):
    """Tell whether any value is a treadling of the loom."""
    return is_string_over(thing, loom.letters)
