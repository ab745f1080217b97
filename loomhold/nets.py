"""Nets: what a script lets one come to, sign by sign."""

from loomhold.kinds import LETTERS


class Net:
    """Places, numbered from 0 on, with links (gone along without a letter) and steps by letters."""

    def __init__(self):
        self.links = [[]]
        self.steps = []
        self.now = 0

    def new_place(self):
        """A further place, to which nothing leads so far."""
        self.links.append([])
        return len(self.links) - 1

    def link_to(self, place):
        """Link the place of now to a place."""
        self.links[self.now].append(place)

    def step_by(self, letter):
        """Go on to a further place by a letter."""
        place = self.new_place()
        self.steps.append((self.now, letter, place))
        self.now = place


def net_of(script):
    """The net of a script: it begins at the place 0 and ends at its place of now."""
    net = Net()
    # For each choice or loop that is begun there wait the places at which a row of it begins, and is to end.
    waiting = []
    for sign in script:
        if sign in LETTERS:
            net.step_by(sign)
        elif sign == "[":
            waiting.append((net.now, net.new_place()))
        elif sign == "(":
            place = net.new_place()
            net.link_to(place)
            net.now = place
            waiting.append((place, place))
        elif sign == "|":
            net.link_to(waiting[-1][1])
            net.now = waiting[-1][0]
        elif sign in ("]", ")"):
            net.link_to(waiting[-1][1])
            net.now = waiting.pop()[1]
    return net


def places_linked(net, places):
    """The set of some places and of all to which links lead from them: bit k tells of the place k."""
    mask = 0
    queue = list(places)
    while queue:
        place = queue.pop()
        if not mask >> place & 1:
            mask = mask | 1 << place
            queue.extend(net.links[place])
    return mask


def led_places(net, mask, letter):
    """The set to which a letter leads from the places of a set, None if it leads nowhere."""
    places = [target for place, sign, target in net.steps if sign == letter and mask >> place & 1]
    return places_linked(net, places) if places else None
