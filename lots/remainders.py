"""What a remainder by a modulus may have come from."""


def small_multiple(number, modulus, bound):
    # Tells (rest, factor): the factor times the number leaves the rest by the modulus, the rest being the first
    # one up to the bound that the search for the common part of both comes to.
    before = modulus
    rest = number % modulus
    factor_before = 0
    factor = 1
    while rest > bound:
        quotient = before // rest
        lower = before - quotient * rest
        before = rest
        rest = lower
        farther = factor_before - quotient * factor
        factor_before = factor
        factor = farther
    return (rest, factor)


def inverse_of(number, modulus):
    found = small_multiple(number, modulus, 1)
    return found[1] % modulus if found[0] == 1 else None


def quotient_behind(number, modulus, bound):
    # At most one quotient with top and bottom up to the bound leaves the number,
    # where twice the bound's square is below the modulus.
    found = small_multiple(number, modulus, bound)
    if abs(found[1]) > bound:
        return None
    return found if found[1] > 0 else (-found[0], -found[1])


def nearest_nought(number, modulus):
    rest = number % modulus
    return rest if 2 * rest < modulus else rest - modulus


def quotients_behind(numbers, modulus, bound):
    # The bottom of the first ones mostly serves the others too: then they are told without a search.
    tops = []
    bottom = 1
    for number in numbers:
        top = nearest_nought(number * bottom, modulus)
        if abs(top) > bound:
            found = quotient_behind(top, modulus, bound)
            if found is None or bottom * found[1] > bound:
                return None
            tops = [one * found[1] for one in tops]
            bottom = bottom * found[1]
            top = found[0]
        tops.append(top)
    return (tops, bottom)
