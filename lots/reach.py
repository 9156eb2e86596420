"""Which nodes of a net are reached from which, and the rings that a chain never leaves."""

from lots.errors import HandLeft


def next_nodes(choices):
    found = {}
    for gain, parts in choices:
        for number, share in parts:
            found[number] = True
    return list(found)


def nodes_ahead(net, node):
    # For each node reached, the one ahead of it on a shortest way: layer by layer, the nearest ones first.
    ahead = {node: None}
    layer = [node]
    while len(layer) > 0:
        farther = []
        for here in layer:
            for there in next_nodes(net[here]):
                if there not in ahead:
                    ahead[there] = here
                    farther.append(there)
        layer = farther
    return ahead


def reached(net, node):
    return sorted(nodes_ahead(net, node))


def way_to(net, node, goal):
    ahead = nodes_ahead(net, node)
    if goal not in ahead:
        return None
    way = []
    here = goal
    while here is not None:
        way.append(here)
        here = ahead[here]
    return list(reversed(way))


def rings_of(net):
    refuse_hands(net)
    alike = {}
    for node, mask in enumerate(reach_masks(net)):
        if len(net[node]) > 0:
            alike.setdefault(mask, []).append(node)
    return sorted([nodes for mask, nodes in alike.items() if mask == mask_of(nodes)])


def refuse_hands(net):
    if any([len(choices) > 1 for choices in net]):
        raise HandLeft("a node of the net is left to the hand")


def mask_of(nodes):
    mask = 0
    for node in nodes:
        mask = mask | (1 << node)
    return mask


def reach_masks(net):
    # For each node a whole number with a bit for each node reached, so that many are joined in one step.
    # Nodes that reach one another, and they alone, have the same one.
    masks = [mask_of([node]) | mask_of(next_nodes(choices)) for node, choices in enumerate(net)]
    for through in range(len(net)):
        for node in range(len(net)):
            if (masks[node] >> through) & 1 == 1:
                masks[node] = masks[node] | masks[through]
    return masks
