"""A console: a house that is spoken to by commands and answers with strings."""

from loomhold.errors import BadRoll, BadText, Broken, InvalidCommand, NoName, NotOfChart, OtherPicture
from loomhold.floats import greatest_float
from loomhold.grips import grip
from loomhold.holdpapers import lasts_from
from loomhold.houses import House, is_name
from loomhold.kinds import LETTERS
from loomhold.looms import Loom
from loomhold.rollparts import element_within, full_roll
from loomhold.rolls import roll_read
from loomhold.scripts import chart_of, is_script

OK = "ok"
NO = "no"
NONE = "-"
MOST_NUMBER = 12
LEAST_NUMBERS = {"from 0 on": 0, "from 1 on": 1}

# For each command what stands behind its word; a loom or a roll is the rest, however many words it has.
FORMS = {
    "found": ("name", "script", "loom"),
    "bring": ("name", "script", "loom"),
    "holds": ("name",),
    "from": ("name", "from 0 on"),
    "grip": ("name", "from 1 on"),
    "floats": ("name", "from 1 on"),
    "weave": ("name", "roll"),
    "told": ("name",),
    "when": ("name",),
    "stretch": ("name",),
    "longest": ("name",),
    "drop": ("name",),
    "undo": (),
    "redo": (),
    "names": (),
}


def parts_of_command(command):
    """The list of the word of a command and of what is told behind it; InvalidCommand for any value that is none."""
    if not isinstance(command, str) or "\n" in command:
        raise InvalidCommand()
    word, *texts = command.split(" ")
    if word not in FORMS:
        raise InvalidCommand()
    form = FORMS[word]
    if form[-1:] == ("loom",) or form[-1:] == ("roll",):
        last = len(form) - 1
        # Without a rest there is an empty one, which is the text of none.
        texts = [*texts[:last], " ".join(texts[last:])]
    if len(texts) != len(form):
        raise InvalidCommand()
    return [word, *[part_told(kind, text) for kind, text in zip(form, texts)]]


def part_told(kind, text):
    """What a part of a command tells; InvalidCommand if it is none of its kind."""
    if kind == "name" and is_name(text):
        return text
    if kind == "script" and text == NONE:
        return ""
    if kind == "script" and text != "" and is_script(text):
        return text
    if kind in LEAST_NUMBERS:
        return number_told(LEAST_NUMBERS[kind], text)
    if kind == "loom" or kind == "roll":
        return rest_told(kind, text)
    raise InvalidCommand()


def number_told(least, text):
    """The integer from a least one on that is written so; InvalidCommand if there is none."""
    numbers = range(least, MOST_NUMBER + 1)
    found = [number for number in numbers if str(number) == text]
    if found == []:
        raise InvalidCommand()
    return found[0]


def rest_told(kind, text):
    """The loom or the roll that the rest of a command tells; InvalidCommand if it tells none."""
    try:
        if kind == "loom":
            return Loom.read(text.replace(";", "\n"))
        return roll_read(Loom(1, (0,), ((),) * len(LETTERS)), text)
    except BadText:
        raise InvalidCommand() from None


def is_script_of(loom, script):
    """Tell whether a loom has all letters of a script."""
    return all([sign in loom.letters for sign in script if sign in LETTERS])


def found_shelf(house, name, script, loom):
    """Found a shelf without promises."""
    if name in house or not is_script_of(loom, script):
        return NO
    house.found(name, loom, chart_of(script, loom.letters))
    return OK


def bring_edition(house, name, script, loom):
    """Bring the next edition of a shelf."""
    if not is_script_of(loom, script):
        return NO
    try:
        house.bring(name, loom, chart_of(script, loom.letters))
    except (Broken, OtherPicture):
        return NO
    return OK


def promise(house, name, thing):
    """Add a promise to a shelf."""
    try:
        house.add_promise(name, thing)
    except Broken:
        return NO
    return OK


def promise_holds(house, name):
    """Promise that all treadlings hold."""
    return promise(house, name, ("holds",))


def promise_from(house, name, number):
    """Promise that treadlings from a length on hold."""
    return promise(house, name, ("from", number))


def promise_grip(house, name, number):
    """Promise that stretches of a length hold."""
    return promise(house, name, ("grip", number))


def promise_floats(house, name, number):
    """Promise that floats are within a number."""
    return promise(house, name, ("floats", number))


def weave_roll(house, name, roll):
    """Weave a roll."""
    try:
        house.weave(name, roll)
    except (BadRoll, NotOfChart):
        return NO
    return OK


def told_of_log(house, name):
    """What the loom in use tells of the rolls of a log."""
    loom = house.loom_now(name)
    return "; ".join([told_of_roll(loom, roll) for roll in house.log(name)]) if house.log(name) else NONE


def told_of_roll(loom, roll):
    """How many picks a roll has, whether it holds, and its greatest float."""
    # An edition need not have the letters of a pair that is never woven.
    element = element_within(loom, full_roll(roll))
    word = "holds" if element.holds else "apart"
    return f"{element.picks} {word} {element.longest_float}"


def told_when(house, name):
    """From which length on the treadlings of the chart hold."""
    number = lasts_from(house.loom_now(name), house.chart_now(name))
    return "never" if number is None else str(number)


def told_stretch(house, name):
    """The grip."""
    number = grip(house.loom_now(name), house.chart_now(name))
    return "never" if number is None else str(number)


def told_longest(house, name):
    """The greatest float of an end."""
    number = greatest_float(house.loom_now(name), house.chart_now(name))
    return "endless" if number is None else str(number)


def drop_shelf(house, name):
    """Drop a shelf."""
    house.drop(name)
    return OK


def undo_change(house):
    """Take a change back."""
    house.undo()
    return OK


def redo_change(house):
    """Make a change again."""
    house.redo()
    return OK


def told_names(house):
    """All names."""
    return " ".join(house.names) if len(house) > 0 else NONE


ACTIONS = {
    "found": found_shelf,
    "bring": bring_edition,
    "holds": promise_holds,
    "from": promise_from,
    "grip": promise_grip,
    "floats": promise_floats,
    "weave": weave_roll,
    "told": told_of_log,
    "when": told_when,
    "stretch": told_stretch,
    "longest": told_longest,
    "drop": drop_shelf,
    "undo": undo_change,
    "redo": redo_change,
    "names": told_names,
}


class Console:
    """A console with a house of its own."""

    def __init__(self):
        self._house = House()

    def run(self, command):
        """The answer to a command."""
        word, *parts = parts_of_command(command)
        if FORMS[word][:1] == ("name",) and word != "found" and parts[0] not in self._house:
            raise NoName(parts[0])
        action = ACTIONS[word]
        return action(self._house, *parts)
