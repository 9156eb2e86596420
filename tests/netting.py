"""Nets that several tests are tried on, and what is asked of them, straight from the words of the document."""

from copy import deepcopy
from fractions import Fraction

from checks import pair_of, sum_of_products

NOUGHT = (0, 1)
ONE = (1, 1)


def choice(gain, *parts):
    """A choice with a gain, of parts told as pairs (number, weight)."""
    whole = sum(weight for number, weight in parts)
    shares = sorted((number, pair_of(Fraction(weight, whole))) for number, weight in parts)
    return (pair_of(Fraction(gain)), shares)


def to(number, gain=0):
    """A choice that goes to one node."""
    return choice(gain, (number, 1))


def line(count, ring=False):
    """A chain of nodes that go on one behind the other, the last one to the first or an end."""
    return [[to(node + 1)] for node in range(count - 1)] + [[to(0)] if ring else []]


def some_choice(rng, numbers, most_parts, gains, weights):
    parts = rng.sample(numbers, min(len(numbers), rng.randrange(1, most_parts + 1)))
    return choice(rng.choice(gains), *[(number, rng.choice(weights)) for number in parts])


def some_net(rng, count, most_choices, most_parts=3, gains=(0, 0, 1, 2), weights=(1, 2, 3), ends=0.2, near=None):
    """Any net; the last node of the line may be no end, and rings may stand in it."""
    net = []
    for node in range(count):
        numbers = list(range(count))
        if near is not None:
            numbers = [number for number in numbers if abs(number - node) <= near]
        choices = 0 if rng.random() < ends else rng.randrange(1, most_choices + 1)
        net.append([some_choice(rng, numbers, most_parts, gains, weights) for turn in range(choices)])
    return net


def shuffled(rng, net):
    """The same net, its nodes numbered in another order; tells the new number of each node, too."""
    order = list(range(len(net)))
    rng.shuffle(order)
    moved = [None] * len(net)
    for node, choices in enumerate(net):
        moved[order[node]] = [(gain, sorted((order[number], share) for number, share in parts))
                              for gain, parts in choices]
    return moved, order


def successors(net, node):
    return {number for gain, parts in net[node] for number, share in parts}


def reached_by_words(net, node):
    found = {node}
    newest = found
    while newest:
        newest = {number for one in newest for number in successors(net, one)} - found
        found = found | newest
    return found


def distances(net, node):
    """For each node reached the number of steps that it takes at least."""
    steps = {node: 0}
    for step in range(1, len(net) + 1):
        for one in [one for one, count in steps.items() if count == step - 1]:
            for number in successors(net, one):
                steps.setdefault(number, step)
    return steps


def rings_by_words(net):
    found = [reached_by_words(net, node) for node in range(len(net))]
    rings = {tuple(sorted(some)) for some in found if all(net[one] and found[one] == some for one in some)}
    return sorted(list(ring) for ring in rings)


def unchanged(test, net):
    """Tells a function that fails the test where the net is no longer what it was."""
    kept = deepcopy(net)
    return lambda: test.assertEqual(net, kept)


def sum_by_parts(parts, numbers):
    """The sum of the parts' numbers, each times its share, as an unreduced pair; great numbers stay fast."""
    return sum_of_products([share for number, share in parts], [numbers[number] for number, share in parts])


def told_lists(net):
    """All lists of a net."""
    return [net] + net + [parts for choices in net for gain, parts in choices]


class Ever:
    """The edges left of a chain whose inner nodes are taken out one by one.

    An edge bears (p, q): the share of the runs that go by it, and what they gain on the way, times that share.
    """

    def __init__(self, net):
        self.edges = {}
        for node, choices in net.items():
            assert len(choices) <= 1
            self.edges[node] = {}
            for gain, ways in choices:
                self.edges[node] = {later: (share, share * gain) for later, share in ways.items()}
        self.ends = {node for node, choices in net.items() if not choices}
        self.rings = {}

    def take_loop(self, node):
        """Spreads what comes back to the node over its other edges; a node with no other one is a ring's last one."""
        share, gained = self.edges[node].pop(node, (Fraction(0), Fraction(0)))
        if share == 1:
            self.rings[node] = gained > 0
            return
        left, right = 1 / (1 - share), gained / (1 - share) ** 2
        self.edges[node] = {later: (p * left, q * left + p * right) for later, (p, q) in self.edges[node].items()}

    def take_out(self, node):
        self.take_loop(node)
        if node in self.rings:
            return
        for other in self.edges:
            if node in self.edges[other] and other != node:
                p, q = self.edges[other].pop(node)
                for later, (share, gained) in self.edges[node].items():
                    here = self.edges[other].get(later, (Fraction(0), Fraction(0)))
                    self.edges[other][later] = (here[0] + p * share, here[1] + p * gained + q * share)
        del self.edges[node]


def runs_from(net, start):
    """What the runs of a chain come to, the chain told as by net_by_words: a dict of the ends with (share, gained),
    the share that goes on for ever, and the mean of all that is gained, or None."""
    ever = Ever(net)
    for node in list(net):
        if node != start and node not in ever.ends:
            ever.take_out(node)
    if start in ever.ends:
        return {start: (Fraction(1), Fraction(0))}, Fraction(0), Fraction(0)
    ever.take_loop(start)
    if start in ever.rings:
        return {}, Fraction(1), None if ever.rings[start] else Fraction(0)
    found = ever.edges[start]
    ends = {node: pair for node, pair in found.items() if node in ever.ends}
    share = sum((pair[0] for node, pair in found.items() if node in ever.rings), Fraction(0))
    endless = any(ever.rings.get(node, False) for node in found)
    return ends, share, None if endless else sum((pair[1] for pair in found.values()), Fraction(0))
