"""Runs gone through one by one, straight from the words of the document, to hold the program's answers against."""

from fractions import Fraction

from checks import pair_of


class Parting(Exception):
    """A draw or a choice of the hand for which no mark is left."""

    def __init__(self, kind, shares):
        super().__init__(kind)
        self.kind = kind
        self.shares = shares


class Lost(Exception):
    """The run is thrown away."""


class Run:
    """One run of a program, its draws and choices told by marks."""

    def __init__(self, boxes, state, marks):
        self.sizes = dict(boxes)
        self.held = {name: number for (name, size), number in zip(boxes, state)}
        self.marks = list(marks)
        self.gain = 0

    def worth(self, operand):
        return self.held[operand] if type(operand) is str else operand

    def reckoned(self, reckoning):
        if len(reckoning) == 1:
            return self.worth(reckoning[0])
        one, sign, other = reckoning
        one, other = self.worth(one), self.worth(other)
        return {"+": one + other, "-": one - other, "*": one * other}[sign]

    def meets(self, test):
        one, sign, other = test
        one, other = self.worth(one), self.worth(other)
        return {"=": one == other, "<": one < other, "#": one != other}[sign]

    def parted(self, kind, shares):
        if not self.marks:
            raise Parting(kind, shares)
        return self.marks.pop(0)

    def do_block(self, block):
        for deed in block:
            getattr(self, "do_" + deed[0])(*deed[1:])

    def do_pass(self):
        pass

    def do_set(self, name, reckoning):
        self.held[name] = self.reckoned(reckoning) % self.sizes[name]

    def do_draw(self, name, weights):
        numbers = [number for number, weight in enumerate(weights) if weight]
        shares = [Fraction(weights[number], sum(weights)) for number in numbers]
        self.held[name] = numbers[self.parted("draw", shares)]

    def do_gain(self, operand):
        self.gain += self.worth(operand)

    def do_look(self, test):
        if not self.meets(test):
            raise Lost

    def do_if(self, test, block, other):
        self.do_block(block if self.meets(test) else other)

    def do_times(self, number, block):
        for turn in range(number):
            self.do_block(block)

    def do_hand(self, blocks):
        self.do_block(blocks[self.parted("hand", [Fraction(1)] * len(blocks))])


class Enough(Exception):
    """More leaves than were asked for."""


def tree_by_runs(program, state, most=400):
    """The tree of a bounded program; Enough where it has more leaves than the most."""
    count = [0]

    def leaf(tree):
        count[0] += 1
        if count[0] > most:
            raise Enough
        return tree

    def tree_at(marks):
        run = Run(program[0], state, marks)
        try:
            run.do_block(program[1])
        except Lost:
            return leaf(("lost", run.gain))
        except Parting as parting:
            trees = [tree_at(marks + (place,)) for place in range(len(parting.shares))]
            if parting.kind == "hand":
                return ("hand", tuple(trees))
            return ("draw", tuple(zip([pair_of(share) for share in parting.shares], trees)))
        return leaf(("end", tuple(run.held[name] for name, size in program[0]), run.gain))

    return tree_at(())


def leaves_of(tree):
    if tree[0] == "draw":
        return sum(leaves_of(part) for share, part in tree[1])
    if tree[0] == "hand":
        return sum(leaves_of(part) for part in tree[1])
    return 1
