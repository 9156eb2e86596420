"""The desk: what is told of a program's text, the run beginning with nought in each box."""

from lots.boxes import start_of
from lots.chains import arrivals, means, means_counted, visits
from lots.errors import HandLeft, NoneKept
from lots.flows import flow_of
from lots.hands import best_way
from lots.nets import net_of
from lots.programs import has_hand
from lots.ratios import ONE, minus, over, plus, total_of
from lots.reading import read


def shares_told(text):
    chain = chain_of(text)
    shares = visits(chain[0], 0)
    ends = ends_with(shares, chain)
    lost = total_of([share for share, spot in zip(shares, chain[1]) if spot is None])
    # All shares come to one, so what goes on for ever is the rest.
    return (ends, lost, minus(ONE, plus(lost, whole_of(ends))))


def shares_given(text):
    chain = chain_of(text)
    refuse_none(end_nodes(chain))
    ends = ends_with(visits(chain[0], 0), chain)
    whole = whole_of(ends)
    return [(state, over(share, whole)) for state, share in ends]


def mean_told(text):
    return means(chain_of(text)[0])[0]


def mean_given(text):
    chain = chain_of(text)
    goals = end_nodes(chain)
    refuse_none(goals)
    return over(means_counted(chain[0], goals)[0], arrivals(chain[0], goals)[0])


def best_told(text):
    program = read(text)
    told = net_from_start(program)
    best = best_way(told[0])
    flow = flow_of(program)
    picks = []
    for spot, pick in zip(told[1], best[1]):
        if spot is not None and flow[spot[0]][0] == "hand":
            picks.append(spot + (pick,))
    return (best[0][0], sorted(picks))


def chain_of(text):
    program = read(text)
    if has_hand(program[1]):
        raise HandLeft("a hand stands in the program")
    return net_from_start(program)


def net_from_start(program):
    return net_of(program, start_of(program[0]))


def end_nodes(chain):
    # What is thrown away has no choice either, but is no end; its spot is None.
    return [node for node, spot in enumerate(chain[1]) if spot is not None and len(chain[0][node]) == 0]


def refuse_none(goals):
    # Each spot of the net is come to with a share above 0, so an end that stands in it is kept.
    if len(goals) == 0:
        raise NoneKept("no run comes to an end")


def ends_with(shares, chain):
    return sorted([(chain[1][node][1], shares[node]) for node in end_nodes(chain)])


def whole_of(ends):
    return total_of([share for state, share in ends])
