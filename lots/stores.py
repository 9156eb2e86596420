"""Functions of the states of boxes, kept as the nodes of one shared graph."""

from lots.boxes import holds
from lots.ratios import NOUGHT, ONE, greater, plus, times


class Store:
    # facts: what each node is, by its number. numbers: the number of each fact.
    # As each fact is kept once, kids ahead of their forks, functions that are alike are one node.
    def __init__(self, boxes):
        self.boxes = boxes
        self.facts = []
        self.numbers = {}

    def number_of(self, fact):
        if fact not in self.numbers:
            self.numbers[fact] = len(self.facts)
            self.facts.append(fact)
        return self.numbers[fact]

    def leaf(self, one):
        return self.number_of(("leaf", one))

    def fork(self, level, kids):
        first = kids[0]
        if all([kid == first for kid in kids]):
            return first
        return self.number_of(("fork", level, tuple(kids)))

    def told(self, node):
        return self.facts[node]

    def level_of(self, node):
        # A leaf lies below all boxes.
        fact = self.facts[node]
        return fact[1] if fact[0] == "fork" else len(self.boxes)

    def kids_of(self, node):
        fact = self.facts[node]
        return fact[2] if fact[0] == "fork" else ()

    def kid_at(self, node, level, number):
        # A node that does not hang on the box stays what it is.
        return self.kids_of(node)[number] if self.level_of(node) == level else node

    def value_at(self, node, state):
        while self.facts[node][0] == "fork":
            node = self.kids_of(node)[state[self.level_of(node)]]
        return self.facts[node][1]

    def added(self, one, other):
        return self.reckoned_of((one, other), lambda ones: plus(ones[0], ones[1]))

    def multiplied(self, one, other):
        return self.reckoned_of((one, other), lambda ones: times(ones[0], ones[1]))

    def higher(self, one, other):
        return self.reckoned_of((one, other), lambda ones: greater(ones[0], ones[1]))

    def reckoned_of(self, nodes, rule):
        # rule: of the list of the fractions that the nodes tell at a state, the fraction told there.
        return self.joined(nodes, lambda these: self.leaf_by(these, rule), {})

    def chosen_by(self, chooser, nodes):
        # The chooser tells at each state the place of the node that is asked there.
        return self.joined((chooser,) + nodes, lambda these: self.choice_among(these), {})

    # settle: tells the node that comes of nodes, or None where that hangs on the next box.
    # known: what came of the nodes gone through so far, so that shared parts are gone through once.
    def joined(self, nodes, settle, known):
        if nodes not in known:
            settled = settle(nodes)
            known[nodes] = self.joined_below(nodes, settle, known) if settled is None else settled
        return known[nodes]

    def joined_below(self, nodes, settle, known):
        level = min([self.level_of(node) for node in nodes])
        kids = []
        for number in range(self.boxes[level][1]):
            these = tuple([self.kid_at(node, level, number) for node in nodes])
            kids.append(self.joined(these, settle, known))
        return self.fork(level, kids)

    def leaf_by(self, nodes, rule):
        facts = [self.facts[node] for node in nodes]
        if any([fact[0] == "fork" for fact in facts]):
            return None
        return self.leaf(rule([fact[1] for fact in facts]))

    def choice_among(self, nodes):
        fact = self.facts[nodes[0]]
        return None if fact[0] == "fork" else nodes[1 + fact[1][0]]

    def fixed(self, node, level, number):
        return self.fixed_below(node, level, number, {})

    def fixed_below(self, node, level, number, known):
        here = self.level_of(node)
        if here >= level:
            return self.kid_at(node, level, number)
        if node not in known:
            kids = [self.fixed_below(kid, level, number, known) for kid in self.kids_of(node)]
            known[node] = self.fork(here, kids)
        return known[node]

    def marked(self, test):
        return self.made(test, lambda state: ONE if holds(self.boxes, state, test) else NOUGHT)

    def made(self, names, rule):
        # rule: of a state, the fraction told there; it asks for the boxes of these names alone.
        return self.made_behind(names, rule, ())

    def made_behind(self, names, rule, numbers):
        level = len(numbers)
        if level == len(self.boxes):
            return self.leaf(rule(numbers))
        if self.boxes[level][0] not in names:
            # What is told does not hang on this box, so one number stands for all of them.
            return self.made_behind(names, rule, numbers + (0,))
        size = self.boxes[level][1]
        return self.fork(level, [self.made_behind(names, rule, numbers + (number,)) for number in range(size)])

    def point(self, state):
        nought = self.leaf(NOUGHT)
        node = self.leaf(ONE)
        for level in range(len(self.boxes) - 1, -1, -1):
            kids = [nought for number in range(self.boxes[level][1])]
            kids[state[level]] = node
            node = self.fork(level, kids)
        return node

    def nodes_below(self, node):
        found = {node: True}
        waiting = [node]
        while len(waiting) > 0:
            here = waiting.pop()
            for kid in self.kids_of(here):
                if kid not in found:
                    found[kid] = True
                    waiting.append(kid)
        return sorted(found)
