"""Houses: shelves with looms, charts, promises and logs under names; changes are taken back and made again."""

from loomhold.charts import Chart
from loomhold.errors import (
    BadName, BadPart, BadPromise, Broken, NoName, NotOfChart, NothingToRedo, NothingToUndo, OtherPicture)
from loomhold.kinds import LETTERS, is_string_over
from loomhold.looms import Loom
from loomhold.shelves import does_take, first_broken, first_other, is_of_loom, is_promise

MOST_LETTERS = 8


class House:
    """A house; only its own methods change it.

    What it keeps is a dict from names to shelves, tuples (editions, promises, log). No dict is ever changed: a change
    puts another one in its place, so taking back and trying only have to keep those ahead.
    """

    def __init__(self):
        self._shelves = {}
        self._past = ()
        self._undone = ()

    def __len__(self):
        return len(self._shelves)

    def __contains__(self, name):
        return isinstance(name, str) and name in self._shelves

    @property
    def names(self):
        """The ascending tuple of the names that are kept."""
        return tuple(sorted(list(self._shelves)))

    def editions(self, name):
        """The pairs (loom, chart) of a shelf."""
        return self._shelf(name)[0]

    def promises(self, name):
        """The promises of a shelf."""
        return self._shelf(name)[1]

    def log(self, name):
        """The rolls that were woven."""
        return self._shelf(name)[2]

    def loom_now(self, name):
        """The loom in use."""
        return self._shelf(name)[0][-1][0]

    def chart_now(self, name):
        """The chart in use."""
        return self._shelf(name)[0][-1][1]

    def found(self, name, loom, chart, promises=()):
        """Found a shelf."""
        if not is_name(name) or name in self._shelves:
            raise BadName(name)
        check_edition(loom, chart)
        check_promises(promises)
        check_kept(loom, chart, promises)
        self._put(name, (((loom, chart),), promises, ()))

    def add_promise(self, name, promise):
        """Add a promise to a shelf."""
        editions, promises, log = self._shelf(name)
        if not is_promise(promise):
            raise BadPromise(promise)
        check_kept(editions[-1][0], editions[-1][1], (promise,))
        self._put(name, (editions, (*promises, promise), log))

    def bring(self, name, loom, chart):
        """Bring the next edition of a shelf through the gate."""
        editions, promises, log = self._shelf(name)
        check_edition(loom, chart)
        check_kept(loom, chart, promises)
        place = first_other(editions[-1][0], loom, log)
        if place is not None:
            raise OtherPicture(place)
        self._put(name, ((*editions, (loom, chart)), promises, log))

    def weave(self, name, roll):
        """Weave a roll; its index in the log."""
        editions, promises, log = self._shelf(name)
        if not does_take(editions[-1][0], editions[-1][1], roll):
            raise NotOfChart(roll)
        self._put(name, (editions, promises, (*log, roll)))
        return len(log)

    def drop(self, name):
        """Drop a shelf with all that it has."""
        self._shelf(name)
        self._change({other: self._shelves[other] for other in self._shelves if other != name})

    def undo(self):
        """Take the last change back that is not taken back."""
        if self._past == ():
            raise NothingToUndo()
        self._undone = (*self._undone, self._shelves)
        self._shelves = self._past[-1]
        self._past = self._past[:-1]

    def redo(self):
        """Make the change again that was taken back last."""
        if self._undone == ():
            raise NothingToRedo()
        self._past = (*self._past, self._shelves)
        self._shelves = self._undone[-1]
        self._undone = self._undone[:-1]

    def tried(self, action):
        """What a function returns that is called with the house; all is as it was behind it, also behind an error."""
        shelves = self._shelves
        past = self._past
        undone = self._undone
        try:
            return action(self)
        finally:
            self._shelves = shelves
            self._past = past
            self._undone = undone

    def _shelf(self, name):
        """The shelf of a name; NoName for any value that is no name that is kept."""
        if name not in self:
            raise NoName(name)
        return self._shelves[name]

    def _put(self, name, shelf):
        """Make the change after which a shelf stands under a name."""
        self._change({**self._shelves, name: shelf})

    def _change(self, shelves):
        """Make a change: what was taken back ahead of it cannot be made again."""
        self._past = (*self._past, self._shelves)
        self._shelves = shelves
        self._undone = ()


def is_name(thing):
    """Tell whether any value is a word of one to eight letters."""
    return is_string_over(thing, LETTERS) and 1 <= len(thing) <= MOST_LETTERS


def check_edition(loom, chart):
    """Raise BadPart for any values of which the one is no loom, or the other one no chart of it."""
    if not isinstance(loom, Loom):
        raise BadPart("loom")
    if not isinstance(chart, Chart) or not is_of_loom(loom, chart):
        raise BadPart("chart")


def check_promises(promises):
    """Raise BadPromise with any value that is no tuple, otherwise with its first item that is no promise."""
    if not isinstance(promises, tuple):
        raise BadPromise(promises)
    for promise in promises:
        if not is_promise(promise):
            raise BadPromise(promise)


def check_kept(loom, chart, promises):
    """Raise Broken with the first promise that is not kept."""
    broken = first_broken(loom, chart, promises)
    if broken is not None:
        raise Broken(broken[0], broken[1])
