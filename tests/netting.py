"""Nets that several tests are tried on, and what is asked of them, straight from the words of the document."""

from copy import deepcopy
from fractions import Fraction

from checks import pair_of

NOUGHT = (0, 1)
ONE = (1, 1)


def choice(gain, *parts):
    """A choice with a gain, of parts told as pairs (number, weight)."""
    whole = sum(weight for number, weight in parts)
    shares = sorted((number, pair_of(Fraction(weight, whole))) for number, weight in parts)
    return (pair_of(Fraction(gain)), shares)


def to(number, gain=0):
    """A choice that goes to one node."""
    return choice(gain, (number, 1))


def line(count, ring=False):
    """A chain of nodes that go on one behind the other, the last one to the first or an end."""
    return [[to(node + 1)] for node in range(count - 1)] + [[to(0)] if ring else []]


def some_choice(rng, numbers, most_parts, gains, weights):
    parts = rng.sample(numbers, min(len(numbers), rng.randrange(1, most_parts + 1)))
    return choice(rng.choice(gains), *[(number, rng.choice(weights)) for number in parts])


def some_net(rng, count, most_choices, most_parts=3, gains=(0, 0, 1, 2), weights=(1, 2, 3), ends=0.2, near=None):
    """Any net; the last node of the line may be no end, and rings may stand in it."""
    net = []
    for node in range(count):
        numbers = list(range(count))
        if near is not None:
            numbers = [number for number in numbers if abs(number - node) <= near]
        choices = 0 if rng.random() < ends else rng.randrange(1, most_choices + 1)
        net.append([some_choice(rng, numbers, most_parts, gains, weights) for turn in range(choices)])
    return net


def shuffled(rng, net):
    """The same net, its nodes numbered in another order; tells the new number of each node, too."""
    order = list(range(len(net)))
    rng.shuffle(order)
    moved = [None] * len(net)
    for node, choices in enumerate(net):
        moved[order[node]] = [(gain, sorted((order[number], share) for number, share in parts))
                              for gain, parts in choices]
    return moved, order


def successors(net, node):
    return {number for gain, parts in net[node] for number, share in parts}


def reached_by_words(net, node):
    found = {node}
    while True:
        more = found | {number for one in found for number in successors(net, one)}
        if more == found:
            return found
        found = more


def distances(net, node):
    """For each node reached the number of steps that it takes at least."""
    steps = {node: 0}
    for step in range(1, len(net) + 1):
        for one in [one for one, count in steps.items() if count == step - 1]:
            for number in successors(net, one):
                steps.setdefault(number, step)
    return steps


def rings_by_words(net):
    rings = []
    for node in range(len(net)):
        found = reached_by_words(net, node)
        if all(net[one] and reached_by_words(net, one) == found for one in found):
            rings.append(sorted(found))
    return sorted(ring for place, ring in enumerate(rings) if ring not in rings[:place])


def unchanged(test, net):
    """Tells a function that fails the test where the net is no longer what it was."""
    kept = deepcopy(net)
    return lambda: test.assertEqual(net, kept)
