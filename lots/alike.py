"""Nodes of a net that are alike: parted round by round, and laid together."""

from lots.ratios import gathered


def rounds(net, marks):
    told = [numbered(marks)]
    finer = parted(net, told[-1])
    while finer != told[-1]:
        told.append(finer)
        finer = parted(net, told[-1])
    return told


def numbered(keys):
    # Nodes with the same key are one class; classes are numbered as their first nodes come.
    numbers = {}
    for key in keys:
        if key not in numbers:
            numbers[key] = len(numbers)
    return [numbers[key] for key in keys]


def parted(net, classes):
    keys = []
    for node, choices in enumerate(net):
        keys.append((classes[node], tuple(choices_by(choices, classes))))
    return numbered(keys)


def choices_by(choices, classes):
    by_classes = [(gain, tuple(gathered_by(parts, classes))) for gain, parts in choices]
    return sorted(set(by_classes))


def gathered_by(parts, classes):
    return gathered([(classes[number], share) for number, share in parts])


def laid(net, classes):
    nodes = []
    for node, choices in enumerate(net):
        # Each class is laid at its first node: the others have the same choices by classes.
        if classes[node] == len(nodes):
            nodes.append([(gain, list(parts)) for gain, parts in choices_by(choices, classes)])
    return nodes
