"""Callers: somebody who calls wishes until a float is longer than a number, whatever is trodden."""

from loomhold.errors import BadLetter, Kept, NothingToUndo
from loomhold.playpapers import are_within, judge_play, runs_behind


class Caller:
    """A caller who goes by one refusal; only its own methods change it."""

    def __init__(self, loom, wishes, sight, number):
        word, rows = judge_play(loom, wishes, sight, number)
        if word == "plan":
            raise Kept(rows)
        self.loom = loom
        self.wishes = wishes
        self.sight = sight
        self.number = number
        self._answers = {(runs, calls): answers for runs, calls, _, answers in rows}
        noughts = (0,) * len(loom.used)
        self._calls = list([calls for runs, calls, _, _ in rows if runs == noughts][0])
        self._trodden = []
        self._runs = [noughts]

    def __len__(self):
        return len(self._trodden)

    @property
    def calls_made(self):
        """The tuple of all calls that are not taken back, the first ones too."""
        return tuple(self._calls)

    @property
    def trodden(self):
        """The treadling so far."""
        return "".join(self._trodden)

    @property
    def runs_now(self):
        """The runs behind all that was trodden, a letter that breaks the number, too."""
        return self._runs[-1]

    @property
    def is_broken(self):
        """Tell whether a letter that is not taken back has broken the number."""
        return not are_within(self._runs[-1], self.number)

    def answer(self, letter):
        """Take a letter that is trodden; the next call, or "" if the letter breaks the number."""
        calls = tuple(self._calls[len(self._trodden):])
        if self.is_broken or not isinstance(letter, str) or len(letter) != 1 or letter not in calls[0]:
            raise BadLetter(letter)
        runs = self._runs[-1]
        further = self._answers[(runs, calls)][calls[0].index(letter)]
        self._trodden.append(letter)
        self._runs.append(runs_behind(self.loom, runs, letter))
        if further != "":
            self._calls.append(further)
        return further

    def undo(self):
        """Take the last letter back, with the call behind it, if there is one."""
        if self._trodden == []:
            raise NothingToUndo()
        if not self.is_broken:
            self._calls.pop()
        self._trodden.pop()
        self._runs.pop()
