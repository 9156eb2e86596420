"""Rows of whole numbers, brought into steps by their remainders by a modulus.

Remainders stay small where the numbers themselves would grow with each row.
"""

from lots.remainders import inverse_of


class Step:
    # row and column: the places of the row and of the unknown that the step settles.
    # inverse: times the unknown's number in the row, the earlier steps taken off, it leaves 1.
    # factors: tuples (step, number), how often each earlier step is taken off the row.
    # parts: tuples (column, number) of the other unknowns, where the settled one stands once.
    def __init__(self, row, column, inverse, factors, parts):
        self.row = row
        self.column = column
        self.inverse = inverse
        self.factors = factors
        self.parts = parts


def column_counts(rows):
    counts = {}
    for row in rows:
        for column, number in row.parts:
            counts[column] = counts.get(column, 0) + 1
    return counts


def take_off(entries, steps, modulus):
    # Entries are brought back to remainders only where they are needed: that saves most of the time.
    factors = []
    for place, step in enumerate(steps):
        factor = entries.pop(step.column, 0) % modulus
        if factor != 0:
            factors.append((place, factor))
            for column, number in step.parts:
                entries[column] = entries.get(column, 0) - factor * number
    return factors


def remainders_of(entries, modulus):
    left = {}
    for column, number in entries.items():
        if number % modulus != 0:
            left[column] = number % modulus
    return left


def steps_of(rows, modulus):
    # Thin rows and rare unknowns go first, so that thin rows stay thin.
    counts = column_counts(rows)
    steps = []
    for place in sorted(range(len(rows)), key=lambda k: len(rows[k].parts)):
        entries = dict(rows[place].parts)
        factors = take_off(entries, steps, modulus)
        left = remainders_of(entries, modulus)
        if len(left) > 0:
            column = min(left, key=lambda k: (counts[k], k))
            inverse = inverse_of(left.pop(column), modulus)
            if inverse is None:
                return None
            parts = [(k, number * inverse % modulus) for k, number in left.items()]
            steps.append(Step(place, column, inverse, factors, parts))
    return steps


def remainders_meeting(steps, lasts, many, modulus):
    values = []
    for step, last in zip(steps, lasts):
        taken = sum([factor * values[place] for place, factor in step.factors])
        values.append((last % modulus - taken) * step.inverse % modulus)
    numbers = [0] * many
    for step, value in reversed(list(zip(steps, values))):
        taken = sum([number * numbers[column] for column, number in step.parts])
        numbers[step.column] = (value - taken) % modulus
    return numbers
