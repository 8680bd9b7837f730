"""A program, written as a text that is read to the same program."""

from handflow.tree import LOOPS


def shown(program):
    rows = [f"ask {name}" for name in program[0]]
    rows.extend([f"store {store} {length}" for store, length in program[1]])
    rows.extend(rows_of_block(program[2]))
    return "\n".join(rows)


def rows_of_block(block):
    rows = []
    for deed in block:
        rows.extend(rows_of_deed(deed))
    return rows


def rows_of_deed(deed):
    kind = deed[0]
    if kind == "set":
        return [row_with((deed[1], "=", deed[2], deed[3], deed[4]))]
    if kind == "if":
        return [row_with(("if", deed[1]))] + rows_of_block(deed[2]) + rows_of_other(deed[3]) + ["end"]
    if kind in LOOPS:
        return [row_with((kind, deed[1]))] + rows_of_block(deed[2]) + ["end"]
    return [row_with(deed)]


def rows_of_other(other):
    # An else with nothing behind it is read to the same tree as none at all.
    if len(other) == 0:
        return []
    return ["else"] + rows_of_block(other)


def row_with(words):
    return " ".join([str(word) for word in words])
