"""What each deed of a row waits for."""

# Where a deed tells the store that it puts into, or gets out of.
INTO = 3
OUT_OF = 4


def waits_of(deeds, stores):
    return waits_behind(waits_for_cards(deeds), deeds, stores)


def waits_behind(waits_by_cards, deeds, stores):
    waits = [list(row) for row in waits_by_cards]
    puts_by_store = numbers_by_store(deeds, INTO)
    gets_by_store = numbers_by_store(deeds, OUT_OF)
    for store, length in stores:
        puts = puts_by_store.get(store, [])
        gets = gets_by_store.get(store, [])
        for put, get in zip(puts, gets):
            waits[get].append((put, "thing", store))
        for count, put in enumerate(puts[length:]):
            awaited = gets[count] if count < len(gets) else len(deeds) - 1
            waits[put].append((awaited, "room", store))
    return waits


def waits_for_cards(deeds):
    owners = {}
    waits = []
    for number, deed in enumerate(deeds):
        waits.append(waits_by(deed[1], "card", owners) + waits_by(deed[2], "copy", owners))
        for card in deed[1]:
            owners[card] = number
    return waits


def waits_by(cards, kind, owners):
    return [(owners[card], kind, card) for card in cards if card in owners]


def numbers_by_store(deeds, place):
    numbers = {}
    for number, deed in enumerate(deeds):
        if deed[place] is not None:
            numbers.setdefault(deed[place], []).append(number)
    return numbers
