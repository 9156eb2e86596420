"""Programs as tuples: how long they are, what stands in them, and which tuple is one."""

from lots.ratios import is_whole
from lots.words import BLOCK_KINDS, is_name

MOST_BOXES = 9
MOST_SIZE = 9
MOST_STATES = 1000
MOST_NUMBER = 999999999
MOST_TURNS = 60
FEWEST_BLOCKS = 2
MOST_BLOCKS = 8
MOST_WITHIN = 12
MOST_LENGTH = 100


def blocks_of(deed):
    if deed[0] == "if":
        return (deed[2], deed[3])
    if deed[0] == "while" or deed[0] == "times":
        return (deed[2],)
    if deed[0] == "hand":
        return deed[1]
    return ()


def length_of(block):
    return sum([deed_length(deed) for deed in block])


def deed_length(deed):
    inner = sum([length_of(block) for block in blocks_of(deed)])
    if deed[0] == "times":
        return 1 + max(deed[1], 1) * (1 + inner)
    return 1 + inner


def deeds_within(block):
    deeds = []
    for deed in block:
        deeds.append(deed)
        for inner in blocks_of(deed):
            deeds.extend(deeds_within(inner))
    return deeds


def stands_in(block, kind):
    return any([deed[0] == kind for deed in deeds_within(block)])


def is_bounded(block):
    return not stands_in(block, "while")


def has_hand(block):
    return stands_in(block, "hand")


def is_program(program):
    boxes = program[0]
    block = program[1]
    if not boxes_fit(boxes):
        return False
    sizes = dict(boxes)
    if not all([deed_fits(sizes, deed) for deed in deeds_within(block)]):
        return False
    return depth_of(block) <= MOST_WITHIN and length_of(block) <= MOST_LENGTH


def is_from_to(number, least, most):
    return is_whole(number) and least <= number <= most


def boxes_fit(boxes):
    names = [box[0] for box in boxes]
    if len(names) > MOST_BOXES or len(set(names)) != len(names):
        return False
    if not all([is_name(name) for name in names]):
        return False
    states = 1
    for name, size in boxes:
        if not is_from_to(size, 1, MOST_SIZE):
            return False
        states = states * size
    return states <= MOST_STATES


def deed_fits(sizes, deed):
    kind = deed[0]
    if kind in ("set", "draw") and deed[1] not in sizes:
        return False
    if kind == "draw" and not weights_fit(deed[2], sizes[deed[1]]):
        return False
    if kind == "times" and not is_from_to(deed[1], 0, MOST_TURNS):
        return False
    if kind == "hand" and not FEWEST_BLOCKS <= len(deed[1]) <= MOST_BLOCKS:
        return False
    return all([operand_fits(sizes, operand) for operand in operands_of(deed)])


def weights_fit(weights, size):
    if len(weights) != size or not all([is_from_to(weight, 0, MOST_NUMBER) for weight in weights]):
        return False
    return sum(weights) > 0


def operands_of(deed):
    # A step of two leaves the sign out: what stays of (A,) is A, of (A, sign, B) A and B.
    if deed[0] == "set":
        return deed[2][::2]
    if deed[0] in ("look", "if", "while"):
        return deed[1][::2]
    if deed[0] == "gain":
        return (deed[1],)
    return ()


def operand_fits(sizes, operand):
    if isinstance(operand, str):
        return operand in sizes
    return is_from_to(operand, 0, MOST_NUMBER)


def depth_of(block):
    return max([deed_depth(deed) for deed in block], default=0)


def deed_depth(deed):
    if deed[0] not in BLOCK_KINDS:
        return 0
    return 1 + max([depth_of(block) for block in blocks_of(deed)], default=0)
