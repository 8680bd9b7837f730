"""What [18] and [19] ask of waits and of what the looker tells, said once more and slowly."""

from collections import Counter


def slow_waits(deeds, stores):
    lengths = dict(stores)
    told = []
    for number, (kind, owns, reads, into, outof) in enumerate(deeds):
        row = []
        for word, cards in (("card", owns), ("copy", reads)):
            for card in cards:
                ahead = [k for k in range(number) if card in deeds[k][1]]
                if ahead:
                    row.append((ahead[-1], word, card))
        if outof is not None:
            n = sum(deed[4] == outof for deed in deeds[:number])
            row.append(([k for k, deed in enumerate(deeds) if deed[3] == outof][n], "thing", outof))
        if into is not None:
            n = sum(deed[3] == into for deed in deeds[:number]) - lengths[into]
            gets = [k for k, deed in enumerate(deeds) if deed[4] == into]
            if n >= 0:
                row.append((gets[n] if n < len(gets) else len(deeds) - 1, "room", into))
        told.append(row)
    return told


def check_order(case, waits, order):
    stands = {deed: k for k, deed in enumerate(order)}
    case.assertEqual(len(stands), len(order))
    for deed in order:
        for awaited, _, _ in waits[deed]:
            case.assertIn(awaited, stands)
            case.assertLess(stands[awaited], stands[deed])


def check_done(case, waits, done):
    check_order(case, waits, done)
    outside = set(range(len(waits))) - set(done)
    for deed in outside:
        case.assertTrue(any(wait[0] in outside for wait in waits[deed]), deed)


def check_ring(case, deeds, stores, done, ring):
    waits = slow_waits(deeds, stores)
    lengths = dict(stores)
    inside = set(done)
    names = [deed for deed, _, _ in ring]
    case.assertGreater(len(ring), 0)
    case.assertEqual(len(set(names)), len(names))
    case.assertFalse(inside & set(names))
    case.assertIn("room", [kind for _, kind, _ in ring])
    for k, (deed, kind, name) in enumerate(ring):
        case.assertIn((ring[(k + 1) % len(ring)][0], kind, name), waits[deed])
        if kind == "room":
            case.assertTrue(all(wait[0] in inside for wait in waits[deed] if wait[1] != "room"))
            puts = Counter(deeds[number][3] for number in done)
            gets = Counter(deeds[number][4] for number in done)
            case.assertEqual(puts[name] - gets[name], lengths[name])


def check_looked(case, deeds, stores, told):
    """Checks what was told, and tells its word."""
    waits = slow_waits(deeds, stores)
    case.assertIs(type(told), tuple)
    case.assertTrue(all(type(part) is list for part in told[1:]))
    if told[0] == "by":
        case.assertEqual(len(told), 2)
        case.assertEqual(sorted(told[1]), list(range(len(deeds))))
        check_order(case, waits, told[1])
        return "by"
    case.assertEqual((len(told), told[0]), (3, "ring"))
    case.assertLess(len(told[1]), len(deeds))
    check_done(case, waits, told[1])
    check_ring(case, deeds, stores, told[1], told[2])
    case.assertTrue(all(type(row) is tuple and len(row) == 3 for row in told[2]))
    return "ring"
