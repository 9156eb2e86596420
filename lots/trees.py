"""The tree of a bounded program: its runs, parted at each draw and at each choice of the hand."""

from lots.boxes import drawn, holds, put_into, reckoned, worth
from lots.errors import NoBound, TooMany
from lots.programs import is_bounded

MOST_LEAVES = 400


def tree_of(program, state):
    if not is_bounded(program[1]):
        raise NoBound("a while stands in the program")
    return Grower(program[0]).tree_from(ahead_of(program[1], None), state, 0)


def ahead_of(block, later):
    # What is still to be done is None or a tuple (deed, later), so that all ways on share their later parts.
    for deed in reversed(block):
        later = (deed, later)
    return later


class Grower:
    # Keeps the count of the leaves of a tree that is growing.
    def __init__(self, boxes):
        self.boxes = boxes
        self.leaves = 0

    def counted(self, leaf):
        self.leaves += 1
        if self.leaves > MOST_LEAVES:
            raise TooMany("the tree has too many leaves")
        return leaf

    def tree_from(self, later, state, gain):
        while later is not None:
            deed = later[0]
            later = later[1]
            if deed[0] == "draw":
                return ("draw", self.parts_from(drawn(self.boxes, state, deed[1], deed[2]), later, gain))
            if deed[0] == "hand":
                return ("hand", self.trees_from(deed[1], later, state, gain))
            if deed[0] == "look" and not holds(self.boxes, state, deed[1]):
                return self.counted(("lost", gain))
            if deed[0] == "set":
                state = put_into(self.boxes, state, deed[1], reckoned(self.boxes, state, deed[2]))
            elif deed[0] == "gain":
                gain = gain + worth(self.boxes, state, deed[1])
            elif deed[0] == "if":
                later = ahead_of(deed[2] if holds(self.boxes, state, deed[1]) else deed[3], later)
            elif deed[0] == "times":
                for turn in range(deed[1]):
                    later = ahead_of(deed[2], later)
        return self.counted(("end", state, gain))

    # Loops and no comprehensions: a tree may be a hundred deep, and these would make the calls half as many again.
    def parts_from(self, ways, later, gain):
        parts = []
        for share, state in ways:
            parts.append((share, self.tree_from(later, state, gain)))
        return tuple(parts)

    def trees_from(self, blocks, later, state, gain):
        trees = []
        for block in blocks:
            trees.append(self.tree_from(ahead_of(block, later), state, gain))
        return tuple(trees)
