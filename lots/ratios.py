"""Fractions: tuples (top, bottom) in lowest terms, the bottom from 1 on."""

from lots.errors import NoNumber

NOUGHT = (0, 1)
ONE = (1, 1)


def is_whole(thing):
    # A truth counts as an int in Python, but is no whole number here.
    return isinstance(thing, int) and not isinstance(thing, bool)


def common_part(one, other):
    one = abs(one)
    other = abs(other)
    while other != 0:
        rest = one % other
        one = other
        other = rest
    return one


def lowest(top, bottom):
    part = common_part(top, bottom)
    if bottom < 0:
        part = -part
    return (top // part, bottom // part)


def fraction(top, bottom):
    if not is_whole(top) or not is_whole(bottom):
        raise NoNumber("a fraction is made of two whole numbers")
    if bottom == 0:
        raise NoNumber("a fraction has no bottom of 0")
    return lowest(top, bottom)


def plus(one, other):
    return lowest(one[0] * other[1] + other[0] * one[1], one[1] * other[1])


def minus(one, other):
    return lowest(one[0] * other[1] - other[0] * one[1], one[1] * other[1])


def times(one, other):
    return lowest(one[0] * other[0], one[1] * other[1])


def over(one, other):
    if other[0] == 0:
        raise NoNumber("nothing is divided by nought")
    return lowest(one[0] * other[1], one[1] * other[0])


def under(one, other):
    return one[0] * other[1] < other[0] * one[1]


def greater(one, other):
    return other if under(one, other) else one


def total_of(some):
    total = NOUGHT
    for one in some:
        total = plus(total, one)
    return total


def gathered(pairs):
    totals = {}
    for thing, share in pairs:
        totals[thing] = plus(totals.get(thing, NOUGHT), share)
    return [(thing, totals[thing]) for thing in sorted(totals) if totals[thing] != NOUGHT]
