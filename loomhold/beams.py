"""Beams: a roll on a loom that can be changed, and changes that can be taken back."""

from loomhold.errors import NothingToUndo
from loomhold.rollparts import check_stretch, element_within, piece_within
from loomhold.rolls import check_roll


class Beam:
    """A loom and a roll; only its own methods change it."""

    def __init__(self, loom, roll):
        check_roll(loom, roll)
        self.loom = loom
        self._rolls = [roll]
        self._element = None

    @property
    def roll_now(self):
        """A roll that stands for the treadling of now."""
        return self._rolls[-1]

    @property
    def element_now(self):
        """The element of the treadling of now."""
        if self._element is None:
            self._element = element_within(self.loom, self._rolls[-1])
        return self._element

    @property
    def holds_now(self):
        """Tell whether the treadling of now holds."""
        element = self.element_now
        return element.holds

    @property
    def picks_now(self):
        """How many picks the treadling of now has."""
        element = self.element_now
        return element.picks

    def change(self, start, end, roll):
        """Put a roll in the place of a stretch."""
        old = self._rolls[-1]
        picks = self.picks_now
        check_stretch(picks, start, end)
        check_roll(self.loom, roll)
        self._rolls.append((*piece_within(old, 0, start), *roll, *piece_within(old, end, picks)))
        self._element = None

    def undo(self):
        """Take the last change back that is not taken back."""
        if len(self._rolls) == 1:
            raise NothingToUndo()
        self._rolls.pop()
        self._element = None

    def element_from(self, start, end):
        """The element of a stretch."""
        check_stretch(self.picks_now, start, end)
        return element_within(self.loom, piece_within(self._rolls[-1], start, end))
