"""What a tree tells: its runs one by one, its ends with their shares, and the best that it gains."""

from lots.errors import HandLeft
from lots.ratios import ONE, gathered, greater, times, total_of


def runs_of(tree):
    runs = []
    add_runs(runs, (), ONE, tree)
    return runs


def add_runs(runs, marks, share, tree):
    # Parts are gone through by their places, so the runs come sorted by their marks.
    if tree[0] == "end":
        runs.append((marks, share, tree[1], tree[2]))
    elif tree[0] == "lost":
        runs.append((marks, share, None, tree[1]))
    else:
        for place, part in enumerate(parts_of(tree)):
            add_runs(runs, marks + (place,), times(share, part[0]), part[1])


def parts_of(tree):
    # A choice of the hand takes nothing off a run's share.
    if tree[0] == "hand":
        return [(ONE, part) for part in tree[1]]
    return tree[1]


def ends_of(tree):
    if leaves_choice(tree):
        raise HandLeft("a hand stands in the tree")
    runs = runs_of(tree)
    ends = [(state, share) for marks, share, state, gain in runs if state is not None]
    lost = [share for marks, share, state, gain in runs if state is None]
    return (gathered(ends), total_of(lost))


def leaves_choice(tree):
    if tree[0] == "hand":
        return True
    return tree[0] == "draw" and any([leaves_choice(part) for share, part in tree[1]])


def best_of(tree):
    if tree[0] == "end":
        return (tree[2], 1)
    if tree[0] == "lost":
        return (tree[1], 1)
    if tree[0] == "draw":
        return total_of([times(share, best_of(part)) for share, part in tree[1]])
    best = best_of(tree[1][0])
    for part in tree[1][1:]:
        best = greater(best, best_of(part))
    return best
