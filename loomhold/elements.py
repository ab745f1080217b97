"""Elements: what the stretch of a treadling does to the threads."""

from loomhold.byletters import letters_of
from loomhold.errors import BadTreadling, OtherLoom
from loomhold.looms import is_treadling
from loomhold.stretches import cut_parts, do_parts_hold, joined_parts, run_of, run_times


class Element:
    """The element of a treadling on a loom; it is made by element_of, by joining and by times alone."""

    def __init__(self, loom, picks, parts):
        self.loom = loom
        self.picks = picks
        self.pairs = parts[0]
        self.loose = parts[1]
        self.runs = parts[2]

    def __eq__(self, other):
        return (isinstance(other, Element) and self.loom == other.loom and self.picks == other.picks
                and self.pairs == other.pairs and self.loose == other.loose and self.runs == other.runs)

    def __add__(self, other):
        if not isinstance(other, Element):
            return NotImplemented
        if self.loom != other.loom:
            raise OtherLoom()
        return Element(self.loom, self.picks + other.picks, joined_parts(parts_of(self), parts_of(other)))

    def times(self, many):
        """The element joined to itself, so many of them."""
        if many == 0:
            return element_of(self.loom, "")
        runs = tuple([run_times(run, many) for run in self.runs])
        return Element(self.loom, self.picks * many, (self.pairs, self.loose, runs))

    @property
    def holds(self):
        """Tell whether treadlings with this element hold."""
        return do_parts_hold(self.loom, parts_of(self))

    @property
    def longest_float(self):
        """The greatest float of treadlings with this element."""
        return max([max(self.runs[shaft][2], self.runs[shaft][3]) for shaft in self.loom.used])

    def cut_off(self, top):
        """The tuple (pairs, loose, runs) with the numbers cut off at top."""
        return cut_parts(parts_of(self), top)


def parts_of(element):
    """The pairs, loose and runs of an element."""
    return (element.pairs, element.loose, element.runs)


def element_of(loom, treadling):
    """The element of a treadling; BadTreadling for any value that is none of the loom."""
    if not is_treadling(loom, treadling):
        raise BadTreadling(treadling)
    lifts = [loom.lift_of(letter) for letter in letters_of(treadling)]
    shafts = list(range(loom.shafts))
    pairs = [(s, t) for s in shafts for t in shafts if any([s in lift and t not in lift for lift in lifts])]
    above = [not any([shaft in lift for shaft in loom.used]) for lift in lifts]
    below = [all([shaft in lift for shaft in loom.used]) for lift in lifts]
    runs = [run_of([shaft in loom.lift_of(letter) for letter in treadling]) for shaft in shafts]
    return Element(loom, len(treadling), (tuple(pairs), (True in above, True in below), tuple(runs)))


def joined_capped(loom, one, other, top):
    """The element of two treadlings, cut off at top, told from both cut off alone."""
    return cut_parts(joined_parts(one, other), top)
