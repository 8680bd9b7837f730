"""The cards of a program, and which of them its deeds touch."""

from handflow.tree import all_deeds, names_in

OUTLET = ">"
# A while keeps the outlet even where it gives nothing: behind one that never ends nothing is given.
OUTLET_KEEPERS = ("give", "while")


def touched(block):
    cards = []
    for deed in all_deeds(block):
        cards.extend(names_in(deed))
        cards.extend(other_cards_in(deed))
    return sorted(set(cards))


def other_cards_in(deed):
    if deed[0] == "put":
        return [put_card(deed[1])]
    if deed[0] == "get":
        return [get_card(deed[1])]
    return [OUTLET] if deed[0] in OUTLET_KEEPERS else []


def put_card(store):
    return store + ">"


def get_card(store):
    return store + "<"


def cards_of(program):
    cards = program[0] + touched(program[2]) + [OUTLET]
    for store, length in program[1]:
        cards.extend([put_card(store), get_card(store)])
    return sorted(set(cards))
