"""What several tests hold the program's answers against: plain sums of whole numbers."""

import inspect
from math import gcd, lcm


def is_whole(thing):
    return type(thing) is int


def is_fraction(thing):
    return (
        type(thing) is tuple
        and len(thing) == 2
        and is_whole(thing[0])
        and is_whole(thing[1])
        and thing[1] >= 1
        and gcd(thing[0], thing[1]) == 1
    )


def pair_of(exact):
    """The tuple of a Fraction."""
    return (exact.numerator, exact.denominator)


def same_worth(one, other):
    return one[0] * other[1] == other[0] * one[1]


def sum_of_products(ones, others):
    """The sum as an unreduced (top, bottom), by common bottoms."""
    left = lcm(*[one[1] for one in ones])
    right = lcm(*[other[1] for other in others])
    top = sum(
        one[0] * (left // one[1]) * other[0] * (right // other[1])
        for one, other in zip(ones, others, strict=True)
    )
    return (top, left * right)


def parameters_of(function):
    return list(inspect.signature(function).parameters)


def figures(count, rng):
    """A whole number of just so many figures."""
    return rng.randrange(10 ** (count - 1), 10 ** count)
