"""Flows and nets of programs, straight from the words of the document, to hold the program's answers against."""

from fractions import Fraction

from oracle import Run
from tables import put


class Stop:
    """A stop that knows the stops behind it; it is numbered when all of them are there."""

    def __init__(self, deed):
        self.deed = deed
        self.behind = []
        self.number = None


def flow_by_words(program):
    end = Stop(("end",))
    stops = []
    laid(program[1], end, stops)
    stops.append(end)
    for number, stop in enumerate(stops):
        stop.number = number
    return [told_stop(stop) for stop in stops]


def turns_of(block):
    """The deeds of a block, each times in it written out."""
    deeds = []
    for deed in block:
        if deed[0] == "times":
            for turn in range(deed[1]):
                deeds += turns_of(deed[2])
        else:
            deeds.append(deed)
    return deeds


def laid(block, behind, stops):
    """Adds the stops of a block; tells the first one that is come to."""
    ordered = [Stop(deed) for deed in turns_of(block)]
    for stop, later in zip(ordered, ordered[1:] + [behind]):
        stops.append(stop)
        kind = stop.deed[0]
        if kind == "if":
            stop.behind = [laid(inner, later, stops) for inner in stop.deed[2:]]
        elif kind == "while":
            stop.behind = [laid(stop.deed[2], stop, stops), later]
        elif kind == "hand":
            stop.behind = [laid(inner, later, stops) for inner in stop.deed[1]]
        else:
            stop.behind = [later]
    return (ordered + [behind])[0]


def told_stop(stop):
    numbers = tuple(one.number for one in stop.behind)
    kind = stop.deed[0]
    if kind in ("if", "while"):
        return ("if", stop.deed[1]) + numbers
    if kind == "hand":
        return ("hand", numbers)
    return stop.deed + numbers


def ways_from(boxes, flow, spot):
    """The choices at a spot: tuples (gain, dict of the spots that come next with their shares)."""
    if spot is None or flow[spot[0]] == ("end",):
        return []
    stop, state = flow[spot[0]], spot[1]
    run = Run(boxes, state, ())
    if stop[0] == "hand":
        return [(Fraction(0), {(number, state): Fraction(1)}) for number in stop[1]]
    if stop[0] == "draw":
        whole = sum(stop[2])
        ways = {(stop[3], put(boxes, state, stop[1], number)): Fraction(weight, whole)
                for number, weight in enumerate(stop[2]) if weight}
        return [(Fraction(0), ways)]
    gain = Fraction(run.worth(stop[1])) if stop[0] == "gain" else Fraction(0)
    later = (stop[-1], state)
    if stop[0] == "set":
        later = (stop[3], put(boxes, state, stop[1], run.reckoned(stop[2])))
    if stop[0] == "look" and not run.meets(stop[1]):
        later = None
    if stop[0] == "if":
        later = (stop[2] if run.meets(stop[1]) else stop[3], state)
    return [(gain, {later: Fraction(1)})]


def net_by_words(program, state, most):
    """A dict with the choices at each spot that can be come to; None where there are more than the most."""
    flow = flow_by_words(program)
    found = {}
    waiting = [(0, state)]
    while waiting:
        spot = waiting.pop()
        if spot in found:
            continue
        found[spot] = ways_from(program[0], flow, spot)
        if len(found) > most:
            return None
        for gain, ways in found[spot]:
            waiting.extend(ways)
    return found
