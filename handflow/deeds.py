"""The deeds of a program, its repeats written out."""

from handflow.cards import OUTLET, cards_of, get_card, put_card, touched
from handflow.errors import Starved, TooMuch
from handflow.tree import read_by_set

MOST_DEEDS = 2000


def deeds_of(program):
    # Counted ahead, since what is too much may be too much to write out at all.
    if counted(program[2]) + 1 > MOST_DEEDS:
        raise TooMuch(f"more than {MOST_DEEDS} deeds", MOST_DEEDS)
    deeds = written(program[2])
    deeds.append(owner_of("end", cards_of(program)))
    check_gets(deeds)
    return deeds


def counted(block):
    count = len(block)
    for deed in block:
        if deed[0] == "repeat":
            count = count + deed[1] * (counted(deed[2]) + 1)
    return count


def written(block):
    deeds = []
    for deed in block:
        if deed[0] == "repeat":
            deeds.extend(written_rounds(deed[1], deed[2]))
        else:
            deeds.append(written_once(deed))
    return deeds


def written_rounds(rounds, body):
    gate = owner_of("gate", touched(body))
    if rounds == 0:
        # What stands within was counted as nothing, so it has no bound.
        return [gate]
    return [gate] + (written(body) + [gate]) * rounds


def written_once(deed):
    kind = deed[0]
    if kind == "set":
        return ("set", (deed[1],), tuple(read_by_set(deed)), None, None)
    if kind == "put":
        return ("put", (put_card(deed[1]),), (deed[2],), deed[1], None)
    if kind == "get":
        return ("get", tuple(sorted([deed[2], get_card(deed[1])])), (), None, deed[1])
    if kind == "give":
        return ("give", (OUTLET,), (deed[1],), None, None)
    return owner_of(kind, touched([deed]))


def owner_of(kind, cards):
    return (kind, tuple(cards), (), None, None)


def check_gets(deeds):
    standing = {}
    for number, deed in enumerate(deeds):
        into = deed[3]
        outof = deed[4]
        if into is not None:
            standing[into] = standing.get(into, 0) + 1
        if outof is not None:
            if standing.get(outof, 0) == 0:
                raise Starved(f"deed {number}: nothing stands in the store {outof}", number)
            standing[outof] = standing[outof] - 1
