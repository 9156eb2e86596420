"""Choices of a net in whole numbers, and picks that are likely to be good, found by rounded sums."""

from lots.reach import reached
from lots.wholes import shared_bottom, tops_over

# Rounded numbers are told in parts of 2 to the power of this.
BITS = 300


class WholeChoice:
    # A choice's gain and shares, all over one bottom, so that sums are free of common parts to look for.
    def __init__(self, choice):
        shares = [share for number, share in choice[1]]
        self.bottom = shared_bottom(shares + [choice[0]])
        self.gain = tops_over([choice[0]], self.bottom)[0]
        tops = tops_over(shares, self.bottom)
        self.parts = [(part[0], top) for part, top in zip(choice[1], tops)]

    def top_by(self, tops, bottom):
        # Where tops over the bottom are the nodes' numbers: the top, over both bottoms, of what the choice gains.
        return self.gain * bottom + sum([top * tops[number] for number, top in self.parts])


def likely_picks(net, whole):
    # Numbers rise from nought, sweep by sweep, until a sweep changes no pick. What others lead to goes first;
    # nodes that lead to one another go by turns from either side, so that far gains are soon known everywhere.
    counts = [len(reached(net, node)) for node in range(len(net))]
    rising = sorted(range(len(net)), key=lambda node: (counts[node], node))
    falling = sorted(range(len(net)), key=lambda node: (counts[node], -node))
    tops = [0 for choices in net]
    picks = [0 if len(choices) > 0 else None for choices in net]
    for sweep in range(len(net)):
        before = list(picks)
        sweep_over(whole, falling if sweep % 2 == 0 else rising, tops, picks)
        if picks == before:
            return picks
    return picks


def sweep_over(whole, nodes, tops, picks):
    for node in nodes:
        for place, choice in enumerate(whole[node]):
            top = choice.top_by(tops, 1 << BITS) // choice.bottom
            if top > tops[node]:
                tops[node] = top
                picks[node] = place
