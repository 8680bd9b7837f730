"""What a program names: its deeds in any depth, and their variables."""

LOOPS = ("while", "repeat")
LOOKERS = ("if", "while")


def named(block):
    names = []
    for deed in all_deeds(block):
        names.extend(names_in(deed))
    return sorted(set(names))


def variables_of(program):
    return sorted(set(program[0]) | set(named(program[2])))


def all_deeds(block):
    found = []
    for deed in block:
        found.append(deed)
        for inner in blocks_within(deed):
            found.extend(all_deeds(inner))
    return found


def blocks_within(deed):
    if deed[0] == "if":
        return [deed[2], deed[3]]
    if deed[0] in LOOPS:
        return [deed[2]]
    return []


def names_in(deed):
    kind = deed[0]
    if kind == "set":
        return [word for word in (deed[1], deed[2], deed[4]) if isinstance(word, str)]
    if kind == "repeat":
        return []
    # The last word elsewhere: ahead of it stands the store of a put or a get, which is no variable.
    return [deed[1]] if kind in LOOKERS else [deed[-1]]


def read_by_set(deed):
    return sorted(set(names_in(deed)) - set([deed[1]]))
