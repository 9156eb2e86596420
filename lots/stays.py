"""Where the hand can gain without end: choices by which a run stays for ever among nodes that lead to one another."""

from lots.ratios import NOUGHT
from lots.reach import reach_masks


def endless_picks(net):
    # Picks, as a dict, for all nodes from which some picks gain without end: with these, all of them do.
    # Of staying choices each one picked leads nearer to a gain, so a gain is come to again and again.
    staying = staying_places(net)
    return picks_towards(net, all_places(net), picks_towards(net, staying, gaining_picks(net, staying)))


def all_places(net):
    return [list(range(len(choices))) for choices in net]


def staying_places(net):
    # A choice that may lead out of the nodes that lead back to its own is struck off, until none is left that does.
    places = all_places(net)
    fewer = places_within(net, places)
    while fewer != places:
        places = fewer
        fewer = places_within(net, places)
    return places


def places_within(net, places):
    masks = reach_masks([[choices[place] for place in some] for choices, some in zip(net, places)])
    within = []
    for node, choices in enumerate(net):
        within.append([place for place in places[node] if all_alike(choices[place], masks, masks[node])])
    return within


def all_alike(choice, masks, mask):
    return all([masks[number] == mask for number, share in choice[1]])


def gaining_picks(net, places):
    picks = {}
    for node, choices in enumerate(net):
        for place in places[node]:
            if choices[place][0] != NOUGHT:
                picks[node] = place
    return picks


def picks_towards(net, places, picks):
    # Adds picks for all nodes from which choices of these places lead to one with a pick, each along a shortest way.
    found = dict(picks)
    nearest = found
    while len(nearest) > 0:
        nearest = next_picks(net, places, found)
        found.update(nearest)
    return found


def next_picks(net, places, found):
    picks = {}
    for node, choices in enumerate(net):
        leading = [place for place in places[node] if leads_into(choices[place], found)]
        if node not in found and len(leading) > 0:
            picks[node] = leading[0]
    return picks


def leads_into(choice, nodes):
    return any([number in nodes for number, share in choice[1]])
