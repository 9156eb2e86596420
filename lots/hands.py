"""The hand: nets picked by its choices, and the best way to choose."""

from lots.chains import means
from lots.guesses import WholeChoice, likely_picks
from lots.ratios import NOUGHT, under
from lots.stays import endless_picks
from lots.wholes import shared_bottom, tops_over


def picked(net, picks):
    return [chosen_alone(choices, pick) for choices, pick in zip(net, picks)]


def chosen_alone(choices, pick):
    if pick is None:
        return []
    return [(choices[pick][0], list(choices[pick][1]))]


def best_way(net):
    # Picks are bettered until no choice gains more. A pick is left only for one that gains more by the numbers
    # of the picks ahead, so each turn's numbers are higher than the last one's, and no picks come twice.
    whole = [[WholeChoice(choice) for choice in choices] for choices in net]
    picks = first_picks(net, whole)
    while True:
        numbers = means(picked(net, picks))
        better = better_picks(whole, numbers, picks)
        if better == picks:
            return (numbers, picks)
        picks = better


def first_picks(net, whole):
    # Where some picks gain without end they must do so from the first; elsewhere any picks would do.
    endless = endless_picks(net)
    return [endless.get(node, pick) for node, pick in enumerate(likely_picks(net, whole))]


def better_picks(whole, numbers, picks):
    # A node with a number that is no fraction is asked for by no node that has one.
    known = [NOUGHT if one is None else one for one in numbers]
    bottom = shared_bottom(known)
    tops = tops_over(known, bottom)
    better = []
    for node, choices in enumerate(whole):
        pick = picks[node]
        best = (tops[node], 1)
        if numbers[node] is not None:
            for place, choice in enumerate(choices):
                gained = (choice.top_by(tops, bottom), choice.bottom)
                if under(best, gained):
                    best = gained
                    pick = place
        better.append(pick)
    return better
