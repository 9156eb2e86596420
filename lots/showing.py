"""The texts of programs."""

from lots.programs import blocks_of
from lots.words import BLOCK_KINDS


def shown(program):
    rows = [f"box {name} {size}" for name, size in program[0]]
    return "\n".join(rows + block_rows(program[1]))


def block_rows(block):
    rows = []
    for deed in block:
        rows.extend(deed_rows(deed))
    return rows


def deed_rows(deed):
    rows = [" ".join([str(word) for word in first_words(deed)])]
    if deed[0] not in BLOCK_KINDS:
        return rows
    between = "else" if deed[0] == "if" else "or"
    for place, block in enumerate(blocks_of(deed)):
        if place > 0:
            rows.append(between)
        rows.extend(block_rows(block))
    rows.append("end")
    return rows


def first_words(deed):
    kind = deed[0]
    if kind == "set" or kind == "draw":
        return (kind, deed[1]) + deed[2]
    if kind in ("look", "if", "while"):
        return (kind,) + deed[1]
    if kind == "times" or kind == "gain":
        return (kind, deed[1])
    return (kind,)
