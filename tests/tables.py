"""Functions of states told as dicts with a fraction for each state, to hold the nodes of a Store against."""

from fractions import Fraction

from checks import pair_of
from lots.boxes import states_of
from oracle import Run


def node_of(store, table, state=()):
    """The node of a table, made by leaves and forks alone."""
    level = len(state)
    if level == len(store.boxes):
        return store.leaf(table[state])
    size = store.boxes[level][1]
    return store.fork(level, [node_of(store, table, state + (number,)) for number in range(size)])


def table_of(store, node):
    return {state: store.value_at(node, state) for state in states_of(store.boxes)}


def some_table(rng, boxes, values):
    """A function that hangs on some of the boxes alone."""
    asked = [rng.randrange(3) > 0 for box in boxes]
    by_part = {}
    table = {}
    for state in states_of(boxes):
        part = tuple(number for number, asks in zip(state, asked) if asks)
        table[state] = by_part.setdefault(part, rng.choice(values))
    return table


def put(boxes, state, name, number):
    return tuple(number % size if box == name else held for (box, size), held in zip(boxes, state))


def folded(boxes, block, table, counted):
    """The table that comes of a block and a table as its aim: deed by deed, state by state."""
    exact = {state: Fraction(*value) for state, value in table.items()}
    return {state: pair_of(value) for state, value in block_folded(boxes, block, exact, counted).items()}


def block_folded(boxes, block, aim, counted):
    for deed in reversed(block):
        aim = deed_folded(boxes, deed, aim, counted)
    return aim


def deed_folded(boxes, deed, aim, counted):
    if deed[0] == "times":
        for turn in range(deed[1]):
            aim = block_folded(boxes, deed[2], aim, counted)
        return aim
    if deed[0] == "if":
        inner = [block_folded(boxes, block, aim, counted) for block in deed[2:]]
    elif deed[0] == "hand":
        inner = [block_folded(boxes, block, aim, counted) for block in deed[1]]
    else:
        inner = [aim]
    return {state: folded_at(boxes, deed, inner, counted, state) for state in aim}


def folded_at(boxes, deed, inner, counted, state):
    run = Run(boxes, state, ())
    aim = inner[0]
    if deed[0] == "set":
        return aim[put(boxes, state, deed[1], run.reckoned(deed[2]))]
    if deed[0] == "draw":
        ways = [weight * aim[put(boxes, state, deed[1], number)] for number, weight in enumerate(deed[2])]
        return sum(ways) / sum(deed[2])
    if deed[0] == "gain":
        return aim[state] + (run.worth(deed[1]) if counted else 0)
    if deed[0] == "look":
        return aim[state] if run.meets(deed[1]) else Fraction(0)
    if deed[0] == "if":
        return inner[0 if run.meets(deed[1]) else 1][state]
    if deed[0] == "hand":
        return max(one[state] for one in inner)
    return aim[state]
