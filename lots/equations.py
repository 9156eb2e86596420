"""Rows of equations: what meets them, or why nothing does."""

from lots.lifting import lifted
from lots.ratios import NOUGHT, ONE, fraction
from lots.steps import steps_of
from lots.wholes import all_meet, shared_bottom, tops_over, whole_rows

# A prime: it hides an answer only where it happens to divide some sum of products of the rows.
FIRST_MODULUS = 1000000000000000000000000000000000000000000009


def meets(rows, xs):
    bottom = shared_bottom(xs)
    return all_meet(whole_rows(rows), tops_over(xs, bottom), bottom)


def answer_of(rows, many):
    # Each answer is proved before it is told. Only finitely many primes hide it, and all odd numbers,
    # so endlessly many primes, are gone through: one of them finds it, nearly always the first.
    modulus = FIRST_MODULUS
    answer = answer_by(rows, many, modulus)
    while answer is None:
        modulus = modulus + 2
        answer = answer_by(rows, many, modulus)
    return answer


def answer_by(rows, many, modulus):
    whole = whole_rows(rows)
    steps = steps_of(whole, modulus)
    if steps is None:
        return None
    xs = list_meeting(whole, steps, many, modulus)
    if xs is None:
        return none_by(rows, many, modulus)
    # A step for each unknown: rows that leave but one list by the modulus leave but one at all.
    if len(steps) == many:
        return ("one", xs)
    return many_by(rows, many, xs, free_place(steps, many), modulus)


def none_by(rows, many, modulus):
    ys = list_by(turned(rows, many), len(rows), modulus)
    return None if ys is None else ("none", ys)


def many_by(rows, many, xs, free, modulus):
    zs = list_by(level_rows(rows, many, free), many, modulus)
    return None if zs is None else ("many", xs, zs)


def list_by(rows, many, modulus):
    whole = whole_rows(rows)
    steps = steps_of(whole, modulus)
    return None if steps is None else list_meeting(whole, steps, many, modulus)


def list_meeting(whole, steps, many, modulus):
    found = lifted(whole, steps, many, modulus)
    if not all_meet(whole, found[0], found[1]):
        return None
    return [fraction(top, found[1]) for top in found[0]]


def free_place(steps, many):
    settled = [step.column for step in steps]
    return [place for place in range(many) if place not in settled][0]


def turned(rows, many):
    # Asks for ys that bring each unknown's numbers to nought and the last ones to 1.
    columns = [[row[place] for row in rows] + [NOUGHT] for place in range(many)]
    columns.append([row[many] for row in rows] + [ONE])
    return columns


def level_rows(rows, many, free):
    # Asks for zs that meet the rows with nought at their ends, not all nought: the free one is 1.
    level = [row[:many] + [NOUGHT] for row in rows]
    level.append([ONE if place == free else NOUGHT for place in range(many)] + [ONE])
    return level
