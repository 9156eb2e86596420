"""The numbers that meet rows, found from their remainders by higher and higher powers of a modulus.

So the work grows with the figures of what is found, not with those that sums of whole rows would run through.
"""

from lots.remainders import quotients_behind
from lots.steps import remainders_meeting
from lots.wholes import all_meet, sum_at


def lifted(rows, steps, many, modulus):
    chosen = [rows[step.row] for step in steps]
    lasts = [row.last for row in chosen]
    numbers = [0] * many
    powers = [1]
    look = 3
    while True:
        digits = remainders_meeting(steps, lasts, many, modulus)
        numbers = [number + powers[-1] * digit for number, digit in zip(numbers, digits)]
        lasts = [(last - sum_at(row, digits)) // modulus for row, last in zip(chosen, lasts)]
        powers.append(powers[-1] * modulus)
        if len(powers) > look:
            found = quotients_behind(numbers, powers[-1], powers[(look - 1) // 2])
            if found is not None and all_meet(chosen, found[0], found[1]):
                return found
            # A look is dear, so the looks lie farther apart the longer it lasts.
            look = look + 2 * (look // 8 + 1)
