"""Rows of equations in whole numbers: the sums stay free of common parts to look for."""

from lots.ratios import common_part


class WholeRow:
    # parts are the tuples (place, number) of the numbers that are not 0, so that thin rows are walked fast.
    def __init__(self, parts, last):
        self.parts = parts
        self.last = last


def shared_bottom(some):
    bottom = 1
    for one in some:
        if bottom % one[1] != 0:
            bottom = bottom // common_part(bottom, one[1]) * one[1]
    return bottom


def tops_over(some, bottom):
    return [one[0] * (bottom // one[1]) for one in some]


def whole_row(row):
    tops = tops_over(row, shared_bottom(row))
    last = tops.pop()
    return WholeRow([(place, top) for place, top in enumerate(tops) if top != 0], last)


def whole_rows(rows):
    return [whole_row(row) for row in rows]


def sum_at(row, numbers):
    return sum([number * numbers[place] for place, number in row.parts])


def all_meet(rows, tops, bottom):
    for row in rows:
        if sum_at(row, tops) != row.last * bottom:
            return False
    return True
