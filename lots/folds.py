"""Functions of states, kept as nodes of a Store, folded back through the deeds of a bounded block."""

from lots.boxes import place_of, reckoned, worth
from lots.errors import NoBound
from lots.programs import is_bounded
from lots.ratios import NOUGHT, fraction
from lots.wholes import shared_bottom, tops_over


def fold_back(store, block, aim, counted):
    if not is_bounded(block):
        raise NoBound("a while stands in the block")
    return block_back(store, block, aim, counted)


def block_back(store, block, aim, counted):
    for deed in reversed(block):
        aim = deed_back(store, deed, aim, counted)
    return aim


def deed_back(store, deed, aim, counted):
    if deed[0] == "set":
        return set_back(store, deed[1], deed[2], aim)
    if deed[0] == "draw":
        return draw_back(store, deed[1], deed[2], aim)
    if deed[0] == "gain" and counted:
        return store.added(aim, worth_node(store, deed[1]))
    if deed[0] == "look":
        return either(store, deed[1], aim, store.leaf(NOUGHT))
    if deed[0] == "if":
        yes = block_back(store, deed[2], aim, counted)
        return either(store, deed[1], yes, block_back(store, deed[3], aim, counted))
    if deed[0] == "times":
        for turn in range(deed[1]):
            aim = block_back(store, deed[2], aim, counted)
        return aim
    if deed[0] == "hand":
        return highest(store, [block_back(store, block, aim, counted) for block in deed[1]])
    return aim


def set_back(store, name, reckoning, aim):
    level = place_of(store.boxes, name)
    size = store.boxes[level][1]
    number = store.made(reckoning, lambda state: (reckoned(store.boxes, state, reckoning) % size, 1))
    return store.chosen_by(number, held_at_each(store, level, aim))


def held_at_each(store, level, aim):
    return tuple([store.fixed(aim, level, number) for number in range(store.boxes[level][1])])


def draw_back(store, name, weights, aim):
    held = held_at_each(store, place_of(store.boxes, name), aim)
    return store.reckoned_of(held, lambda ones: mean_by(weights, ones))


def mean_by(weights, ones):
    # One common bottom for all of them: looking for common parts at each step would take most of the time.
    bottom = shared_bottom(ones)
    tops = tops_over(ones, bottom)
    return fraction(sum([weight * top for weight, top in zip(weights, tops)]), bottom * sum(weights))


def worth_node(store, operand):
    return store.made((operand,), lambda state: (worth(store.boxes, state, operand), 1))


def either(store, test, yes, no):
    # A test's node tells 0 where it does not hold, and 1 where it does.
    return store.chosen_by(store.marked(test), (no, yes))


def highest(store, nodes):
    highest_yet = nodes[0]
    for node in nodes[1:]:
        highest_yet = store.higher(highest_yet, node)
    return highest_yet
