"""What the runs of a chain come to: arrivals, what goes on for ever, and what is gained in the mean."""

from lots.equations import answer_of
from lots.ratios import NOUGHT, ONE, minus, over, plus, times
from lots.reach import mask_of, reach_masks, refuse_hands, rings_of, way_to
from lots.wholes import shared_bottom, tops_over


def arrivals(net, goals):
    refuse_hands(net)
    goal_mask = mask_of(goals)
    known = [NOUGHT if mask & goal_mask == 0 else None for mask in reach_masks(net)]
    for goal in goals:
        known[goal] = ONE
    return filled(net, [NOUGHT for choices in net], known)


def for_ever(net):
    return arrivals(net, nodes_in(rings_of(net)))


def nodes_in(rings):
    nodes = []
    for ring in rings:
        nodes.extend(ring)
    return nodes


def means(net):
    endless = mask_of(nodes_in(gain_rings(net)))
    gains = gains_of(net)
    gaining = mask_of([node for node, gain in enumerate(gains) if gain != NOUGHT])
    masks = reach_masks(net)
    # What is None in the end is not asked for by any other node, so nought serves for it in between.
    known = [None if mask & gaining != 0 and mask & endless == 0 else NOUGHT for mask in masks]
    found = filled(net, gains, known)
    return [one if mask & endless == 0 else None for one, mask in zip(found, masks)]


def gains_of(net):
    return [choices[0][0] if len(choices) > 0 else NOUGHT for choices in net]


def gain_rings(net):
    gains = gains_of(net)
    return [ring for ring in rings_of(net) if any([gains[node] != NOUGHT for node in ring])]


def gain_ring(net, node):
    for ring in gain_rings(net):
        way = way_to(net, node, ring[0])
        if way is not None:
            return (way, ring)
    return None


def means_counted(net, goals):
    shares = arrivals(net, goals)
    known = [None if len(choices) > 0 and share != NOUGHT else NOUGHT for choices, share in zip(net, shares)]
    # Shares may have great bottoms: times their common one they are whole, and the equations stay as they were.
    bottom = shared_bottom(shares)
    gains = [times(gain, (top, 1)) for gain, top in zip(gains_of(net), tops_over(shares, bottom))]
    return [over(one, (bottom, 1)) for one in filled(net, gains, known)]


def visits(net, node):
    # How often a run from the node comes to each node outside the rings, in the mean: to an end just by its share.
    # One set of equations tells all of them, where arrivals would need one for each end.
    ringed = nodes_in(rings_of(net))
    nodes = [number for number in range(len(net)) if number not in ringed]
    rows = rows_of(net, nodes)
    turned = []
    for place, number in enumerate(nodes):
        turned.append([row[place] for row in rows] + [ONE if number == node else NOUGHT])
    found = dict(zip(nodes, answer_of(turned, len(nodes))[1]))
    return [found.get(number, NOUGHT) for number in range(len(net))]


def filled(net, gains, known):
    # Each node for which None is known gets its gain and the sum of the parts' numbers, each times its share.
    nodes = [node for node, one in enumerate(known) if one is None]
    lasts = [plus(gains[node], known_sum(parts_at(net, node), known)) for node in nodes]
    rows = [row + [last] for row, last in zip(rows_of(net, nodes), lasts)]
    found = dict(zip(nodes, answer_of(rows, len(nodes))[1]))
    return [found.get(node, one) for node, one in enumerate(known)]


def parts_at(net, node):
    return net[node][0][1] if len(net[node]) > 0 else []


def known_sum(parts, known):
    total = NOUGHT
    for number, share in parts:
        if known[number] is not None:
            total = plus(total, times(share, known[number]))
    return total


def rows_of(net, nodes):
    # Each node's number, less the sum of the parts' numbers among these nodes, each times its share.
    places = dict([(node, place) for place, node in enumerate(nodes)])
    rows = []
    for node in nodes:
        row = [NOUGHT for number in nodes]
        row[places[node]] = ONE
        for number, share in parts_at(net, node):
            if number in places:
                row[places[number]] = minus(row[places[number]], share)
        rows.append(row)
    return rows
