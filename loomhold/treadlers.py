"""Treadlers: somebody at the treadles who keeps floats within a number, whatever is called."""

from loomhold.errors import BadCall, NothingToUndo, Refused
from loomhold.playpapers import judge_play, runs_behind


class Treadler:
    """A treadler who goes by one plan; only its own methods change it."""

    def __init__(self, loom, wishes, sight, number):
        word, rows = judge_play(loom, wishes, sight, number)
        if word == "refusal":
            raise Refused(rows)
        self.loom = loom
        self.wishes = wishes
        self.sight = sight
        self.number = number
        self._letters = {(runs, calls): letter for runs, calls, letter in rows}
        self._calls = []
        self._trodden = []
        self._runs = [(0,) * len(loom.used)]

    def __len__(self):
        return len(self._calls)

    @property
    def calls_made(self):
        """The tuple of all calls that are not taken back."""
        return tuple(self._calls)

    @property
    def trodden(self):
        """The treadling so far."""
        return "".join(self._trodden)

    @property
    def runs_now(self):
        """The runs behind what was trodden."""
        return self._runs[-1]

    def hear(self, call):
        """Take a call; the letter that is trodden now, "" as long as not more calls than the sight have been made."""
        if call not in self.wishes:
            raise BadCall(call)
        self._calls.append(call)
        if len(self._calls) <= self.sight:
            return ""
        runs = self._runs[-1]
        letter = self._letters[(runs, tuple(self._calls[len(self._trodden):]))]
        self._trodden.append(letter)
        self._runs.append(runs_behind(self.loom, runs, letter))
        return letter

    def undo(self):
        """Take the last call back, with the letter that was trodden when it was heard."""
        if self._calls == []:
            raise NothingToUndo()
        if len(self._calls) > self.sight:
            self._trodden.pop()
            self._runs.pop()
        self._calls.pop()


def trodden_for(loom, wishes, sight, number, calls):
    """The treadling that a treadler treads for the calls of a tuple."""
    treadler = Treadler(loom, wishes, sight, number)
    for call in calls:
        treadler.hear(call)
    return treadler.trodden
