"""The errors of the package: each is a direct subclass of LoomError and bears its parameters as attributes."""


class LoomError(Exception):
    """What all errors of the package are."""


class BadLoom(LoomError):
    """A value that is no part of a loom: its name, or the number of a lift."""

    def __init__(self, part):
        self.part = part


class BadCloth(LoomError):
    """A value that is no cloth: "picks", or the number of a pick."""

    def __init__(self, part):
        self.part = part


class BadText(LoomError):
    """A text that is the text of none: 0, or the number of its first line that is not as told."""

    def __init__(self, line):
        self.line = line


class BadTreadling(LoomError):
    """A value that is no treadling as asked."""

    def __init__(self, thing):
        self.thing = thing


class BadChart(LoomError):
    """A value that is no part of a chart: its name, or the number of a move."""

    def __init__(self, part):
        self.part = part


class BadScript(LoomError):
    """A value that is no script: -1, or how many of its signs some script begins with."""

    def __init__(self, place):
        self.place = place


class NoTreadling(LoomError):
    """A chart without treadlings where one is asked."""


class OtherLoom(LoomError):
    """Two elements of unlike looms are joined."""


class BadRoll(LoomError):
    """A value that is no roll of the loom."""

    def __init__(self, thing):
        self.thing = thing


class BadPlace(LoomError):
    """A value that is no place as asked."""

    def __init__(self, place):
        self.place = place


class TooLong(LoomError):
    """More letters than most."""

    def __init__(self, most):
        self.most = most


class NothingToUndo(LoomError):
    """No change is left that can be taken back."""


class NoTreadle(LoomError):
    """A letter of a chart's moves that the loom does not have."""

    def __init__(self, letter):
        self.letter = letter


class BadWishes(LoomError):
    """A value that is no wishes for the loom."""

    def __init__(self, thing):
        self.thing = thing


class Refused(LoomError):
    """No treadler can keep the number: the rows of a refusal."""

    def __init__(self, rows):
        self.rows = rows


class Kept(LoomError):
    """No caller can break the number: the cells of a plan."""

    def __init__(self, cells):
        self.cells = cells


class BadCall(LoomError):
    """A value that is no wish."""

    def __init__(self, thing):
        self.thing = thing


class BadLetter(LoomError):
    """A value that is no letter of the call."""

    def __init__(self, thing):
        self.thing = thing


class BadPicture(LoomError):
    """A value that is no picture: "rows", or the number of a row."""

    def __init__(self, part):
        self.part = part


class OtherSize(LoomError):
    """Values of unlike sizes."""


class Clash(LoomError):
    """No stripes show the picture and keep the terms: a paper of it."""

    def __init__(self, paper):
        self.paper = paper


class NotShown(LoomError):
    """The stripes do not show the picture at a crossing."""

    def __init__(self, crossing):
        self.crossing = crossing


class TooMany(LoomError):
    """More than most."""

    def __init__(self, most):
        self.most = most


class BadGrowth(LoomError):
    """A value that is no part of a growth: its name."""

    def __init__(self, part):
        self.part = part


class BadPress(LoomError):
    """A value that is no presses: -1, or the number of a press."""

    def __init__(self, number):
        self.number = number


class BadName(LoomError):
    """A value that is no name, or one that is kept."""

    def __init__(self, name):
        self.name = name


class NoName(LoomError):
    """A value that is no name that is kept."""

    def __init__(self, name):
        self.name = name


class BadPart(LoomError):
    """A value that is no loom, or no chart of it."""

    def __init__(self, part):
        self.part = part


class BadPromise(LoomError):
    """A value that is no promise."""

    def __init__(self, thing):
        self.thing = thing


class Broken(LoomError):
    """A promise that is not kept, with a paper of it."""

    def __init__(self, promise, paper):
        self.promise = promise
        self.paper = paper


class OtherPicture(LoomError):
    """A logged roll whose cloth would be another one."""

    def __init__(self, place):
        self.place = place


class NotOfChart(LoomError):
    """A roll that is no treadling of the chart."""

    def __init__(self, roll):
        self.roll = roll


class NothingToRedo(LoomError):
    """No change is left that can be made again."""


class InvalidCommand(LoomError):
    """A value that is no command."""
