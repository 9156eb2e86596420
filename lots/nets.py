"""The net of a program: the spots that its runs come to, and how they go on from each."""

from lots.boxes import drawn, holds, put_into, reckoned, worth
from lots.errors import TooMany
from lots.flows import flow_of
from lots.ratios import NOUGHT, ONE, gathered

MOST_SPOTS = 200


class Spots:
    # Numbers spots as they come, each once. None is the spot of all that is thrown away.
    def __init__(self):
        self.found = []
        self.known = {}

    def number_of_spot(self, spot):
        if spot not in self.known:
            if len(self.found) == MOST_SPOTS:
                raise TooMany("the net has too many spots")
            self.known[spot] = len(self.found)
            self.found.append(spot)
        return self.known[spot]

    def parts_to(self, ways):
        return gathered([(self.number_of_spot(spot), share) for share, spot in ways])


def net_of(program, state):
    flow = flow_of(program)
    spots = Spots()
    spots.number_of_spot((0, state))
    net = []
    while len(net) < len(spots.found):
        choices = choices_at(program[0], flow, spots.found[len(net)])
        net.append([(gain, spots.parts_to(ways)) for gain, ways in choices])
    return (net, spots.found)


def choices_at(boxes, flow, spot):
    # Tuples (gain, ways), ways being tuples (share, spot).
    if spot is None:
        return []
    stop = flow[spot[0]]
    state = spot[1]
    if stop[0] == "end":
        return []
    if stop[0] == "hand":
        return [(NOUGHT, [(ONE, (place, state))]) for place in stop[1]]
    if stop[0] == "draw":
        return [(NOUGHT, [(share, (stop[3], later)) for share, later in drawn(boxes, state, stop[1], stop[2])])]
    gain = (worth(boxes, state, stop[1]), 1) if stop[0] == "gain" else NOUGHT
    return [(gain, [(ONE, spot_behind(boxes, stop, state))])]


def spot_behind(boxes, stop, state):
    if stop[0] == "set":
        return (stop[3], put_into(boxes, state, stop[1], reckoned(boxes, state, stop[2])))
    if stop[0] == "look":
        return (stop[2], state) if holds(boxes, state, stop[1]) else None
    if stop[0] == "if":
        return (stop[2] if holds(boxes, state, stop[1]) else stop[3], state)
    return (stop[-1], state)
