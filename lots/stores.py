"""Functions of the states of boxes, kept as the nodes of one shared graph."""

from lots.boxes import holds
from lots.ratios import NOUGHT, ONE, greater, plus, times


class Store:
    # facts: what each node is, by its number. numbers: the number of each fact.
    # As each fact is kept once, kids ahead of their forks, functions that are alike are one node.
    def __init__(self, boxes):
        self.boxes = boxes
        self.facts = []
        self.numbers = {}

    def number_of(self, fact):
        if fact not in self.numbers:
            self.numbers[fact] = len(self.facts)
            self.facts.append(fact)
        return self.numbers[fact]

    def leaf(self, one):
        return self.number_of(("leaf", one))

    def fork(self, level, kids):
        first = kids[0]
        if all([kid == first for kid in kids]):
            return first
        return self.number_of(("fork", level, tuple(kids)))

    def told(self, node):
        return self.facts[node]

    def level_of(self, node):
        # A leaf lies below all boxes.
        fact = self.facts[node]
        return fact[1] if fact[0] == "fork" else len(self.boxes)

    def kids_of(self, node):
        fact = self.facts[node]
        return fact[2] if fact[0] == "fork" else ()

    def kid_at(self, node, level, number):
        # A node that does not hang on the box stays what it is.
        return self.kids_of(node)[number] if self.level_of(node) == level else node

    def value_at(self, node, state):
        while self.facts[node][0] == "fork":
            node = self.kids_of(node)[state[self.level_of(node)]]
        return self.facts[node][1]

    def added(self, one, other):
        return self.joined(one, other, plus, {})

    def multiplied(self, one, other):
        return self.joined(one, other, times, {})

    def higher(self, one, other):
        return self.joined(one, other, greater, {})

    # known: what came of the pairs gone through so far, so that shared parts are gone through once.
    def joined(self, one, other, rule, known):
        if (one, other) not in known:
            known[(one, other)] = self.joined_anew(one, other, rule, known)
        return known[(one, other)]

    def joined_anew(self, one, other, rule, known):
        level = min(self.level_of(one), self.level_of(other))
        if level == len(self.boxes):
            return self.leaf(rule(self.facts[one][1], self.facts[other][1]))
        kids = []
        for number in range(self.boxes[level][1]):
            mine = self.kid_at(one, level, number)
            theirs = self.kid_at(other, level, number)
            kids.append(self.joined(mine, theirs, rule, known))
        return self.fork(level, kids)

    def fixed(self, node, level, number):
        return self.fixed_below(node, level, number, {})

    def fixed_below(self, node, level, number, known):
        here = self.level_of(node)
        if here >= level:
            return self.kid_at(node, level, number)
        if node not in known:
            kids = [self.fixed_below(kid, level, number, known) for kid in self.kids_of(node)]
            known[node] = self.fork(here, kids)
        return known[node]

    def marked(self, test):
        return self.marked_behind(test, ())

    def marked_behind(self, test, numbers):
        level = len(numbers)
        if level == len(self.boxes):
            return self.leaf(ONE if holds(self.boxes, numbers, test) else NOUGHT)
        name = self.boxes[level][0]
        if name != test[0] and name != test[2]:
            # The test does not ask for this box, so one number stands for all of them.
            return self.marked_behind(test, numbers + (0,))
        size = self.boxes[level][1]
        return self.fork(level, [self.marked_behind(test, numbers + (number,)) for number in range(size)])

    def point(self, state):
        nought = self.leaf(NOUGHT)
        node = self.leaf(ONE)
        for level in range(len(self.boxes) - 1, -1, -1):
            kids = [nought for number in range(self.boxes[level][1])]
            kids[state[level]] = node
            node = self.fork(level, kids)
        return node

    def nodes_below(self, node):
        found = {node: True}
        waiting = [node]
        while len(waiting) > 0:
            here = waiting.pop()
            for kid in self.kids_of(here):
                if kid not in found:
                    found[kid] = True
                    waiting.append(kid)
        return sorted(found)
