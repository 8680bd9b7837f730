"""What [21] to [25] ask of a net, said once more: a walk back along its cards, from part to part."""

from handflow.cards import cards_of, touched

FORMS = {"pass": 4, "work": 6, "choose": 6, "merge": 5}


def taken_by(part):
    """All lines from which a part may take."""
    return (part[1],) + part[2] + part[3] if part[0] == "merge" else part[1]


def given_by(part):
    """All lines on which a part may give."""
    if part[0] == "work":
        return (part[2],)
    if part[0] == "choose":
        return part[3] + part[4] + (part[5],)
    return part[2] if part[0] == "pass" else part[4]


def is_whole(value):
    return type(value) is int


def are_wholes(values):
    return type(values) is tuple and all(is_whole(value) for value in values)


def has_form(part):
    if type(part) is not tuple or len(part) != FORMS[part[0]]:
        return False
    if part[0] == "pass":
        return all(map(are_wholes, part[1:])) and len(part[2]) == len(part[3])
    if part[0] == "work":
        sides = [type(side) is tuple and side[0] in ("in", "is") and is_whole(side[1]) for side in part[4:]]
        return are_wholes(part[1]) and is_whole(part[2]) and part[3] in "+-*/<=&|^" and sides == [True, True]
    if part[0] == "choose":
        lists = (part[1], part[3], part[4])
        return all(map(are_wholes, lists)) and len(set(map(len, lists))) == 1 and are_wholes((part[2], part[5]))
    return is_whole(part[1]) and all(map(are_wholes, part[2:])) and len(set(map(len, part[2:]))) == 1


def check_forms(case, net):
    case.assertEqual([type(net), *map(type, net)], [tuple, list, list, list])
    lines, parts, ends = net
    for line in lines:
        case.assertEqual((type(line), len(line)), (tuple, 2))
        case.assertTrue(line[0] is None or is_whole(line[0]) and line[0] >= 1, line)
        case.assertTrue(are_wholes(line[1]), line)
    for part in parts:
        case.assertTrue(has_form(part), part)
        for named in (taken_by(part), given_by(part)):
            case.assertEqual(len(set(named)), len(named), part)
            case.assertLessEqual(set(named), set(range(len(lines))), part)
    for end in ends:
        case.assertEqual((type(end), type(end[0]), type(end[1])), (tuple, str, int))


class Walk:
    """Back from the end; each line and each part is met just once, or the net is a wrong one."""

    def __init__(self, case, net):
        self.case = case
        self.lines, self.parts, ends = net
        self.ends = dict(ends)
        self.met_lines = set()
        self.met_parts = set()
        self.cards = {}
        self.givers = {}
        for number, part in enumerate(self.parts):
            for line in given_by(part):
                if line not in self.ends.values():
                    case.assertNotIn(line, self.givers)
                    self.givers[line] = number

    def meet(self, line, length=1, first=()):
        self.case.assertNotIn(line, self.met_lines)
        self.case.assertEqual(self.lines[line], (length, first))
        self.met_lines.add(line)

    def meet_all(self, lines):
        for line in lines:
            self.meet(line)

    def part_ahead(self, line, kind):
        self.case.assertIn(line, self.givers)
        number = self.givers[line]
        self.case.assertEqual(self.parts[number][0], kind)
        self.case.assertNotIn(number, self.met_parts)
        self.met_parts.add(number)
        return self.parts[number]

    def lines_of(self, cards):
        return tuple(self.cards[card] for card in cards)

    def lead(self, cards, lines):
        self.cards.update(zip(cards, lines, strict=True))

    def walk(self, block):
        for deed in reversed(block):
            getattr(self, "walk_" + deed[0])(*deed[1:])

    def walk_fork(self, name):
        """Tells the line on which the copy goes."""
        line = self.cards[name]
        part = self.part_ahead(line, "pass")
        self.case.assertEqual((len(part[1]), len(part[2]), part[3]), (1, 2, (0, 0)))
        self.meet_all(part[2])
        self.cards[name] = part[1][0]
        return part[2][1] if part[2][0] == line else part[2][0]

    def walk_set(self, name, left, sign, right):
        part = self.part_ahead(self.cards[name], "work")
        self.meet(part[2])
        sources = {other: self.walk_fork(other) for other in {left, right} - {name} if type(other) is str}
        self.case.assertEqual(sorted(part[1][1:]), sorted(sources.values()))
        self.cards[name] = sources[name] = part[1][0]
        sides = [("in", part[1].index(sources[value])) if type(value) is str else ("is", value)
                 for value in (left, right)]
        self.case.assertEqual(part[3:], (sign, *sides))

    def walk_handing(self, card, name, end):
        line = self.cards[card]
        part = self.part_ahead(line, "pass")
        self.meet(line)
        self.case.assertEqual(part, ("pass", (part[1][0], self.walk_fork(name)), (line, self.ends[end]), (0, 1)))
        self.cards[card] = part[1][0]

    def walk_put(self, store, name):
        self.walk_handing(store + ">", name, store)

    def walk_give(self, name):
        self.walk_handing(">", name, ">")

    def walk_get(self, store, name):
        cards = (store + "<", name)
        lines = self.lines_of(cards)
        part = self.part_ahead(lines[0], "pass")
        self.case.assertEqual(part, ("pass", (*part[1][:2], self.ends[store]), lines, (0, 2)))
        self.meet_all(lines)
        self.lead(cards, part[1][:2])

    def walk_if(self, name, then, other):
        cards = touched([("if", name, then, other)])
        outs = self.lines_of(cards)
        merge = self.part_ahead(outs[0], "merge")
        self.case.assertEqual(merge[4], outs)
        self.meet_all(outs)
        sides = []
        for block, lines in ((then, merge[2]), (other, merge[3])):
            self.lead(cards, lines)
            self.walk(block)
            sides.append(self.lines_of(cards))
        choose = self.part_ahead(merge[1], "choose")
        self.case.assertEqual(choose[2:], (cards.index(name), *sides, merge[1]))
        self.meet_all((*choose[3], *choose[4], choose[5]))
        self.lead(cards, choose[1])

    def walk_while(self, name, body):
        cards = touched([("while", name, body)])
        behind = self.lines_of(cards)
        choose = self.part_ahead(behind[0], "choose")
        self.case.assertEqual((choose[2], choose[4]), (cards.index(name), behind))
        self.meet_all(behind)
        self.lead(cards, self.walk_loop(cards, body, choose))

    def walk_repeat(self, rounds, body):
        cards = touched(body)
        if not cards:
            return
        behind = self.lines_of(cards)
        choose = self.part_ahead(behind[0], "choose")
        rest = choose[4][-1]
        self.case.assertEqual((choose[2], choose[4]), (len(cards), behind + (rest,)))
        self.meet_all(behind)
        self.meet(rest, 1, (0,))
        *coming, count = self.walk_loop(cards, body, choose)
        work = self.part_ahead(count, "work")
        self.case.assertEqual(work, ("work", (rest,), count, "+", ("is", rounds), ("is", 0)))
        self.meet(count)
        self.lead(cards, coming)

    def walk_loop(self, cards, body, choose):
        """From the merge's `ones` back to the choose's; tells the lines on which all comes."""
        _, ins, _, ones, _, told = choose
        self.meet_all((*ins, *ones))
        self.meet(told, 1, (0,))
        merge = self.part_ahead(ins[0], "merge")
        self.case.assertEqual((merge[1], merge[4]), (told, ins))
        self.lead(cards, merge[2][:len(cards)])
        self.walk(body)
        counts = merge[2][len(cards):]
        self.case.assertEqual(ones, self.lines_of(cards) + tuple(self.walk_count(line) for line in counts))
        return merge[3]

    def walk_count(self, line):
        work = self.part_ahead(line, "work")
        self.case.assertEqual(work, ("work", work[1], line, "-", ("in", 0), ("is", 1)))
        self.case.assertEqual(len(work[1]), 1)
        self.meet(line)
        return work[1][0]


def check_net(case, program, begun, net):
    """`begun` tells the variables that don't begin with 0."""
    check_forms(case, net)
    case.assertEqual([name for name, _ in net[2]], [store for store, _ in program[1]] + [">"])
    walk = Walk(case, net)
    for store, length in program[1]:
        walk.meet(walk.ends[store], length)
    walk.meet(walk.ends[">"], None)
    cards = cards_of(program)
    case.assertEqual(net[1][-1], ("pass", net[1][-1][1], (), ()))
    walk.met_parts.add(len(net[1]) - 1)
    walk.lead(cards, net[1][-1][1])
    walk.walk(program[2])
    for card in cards:
        case.assertNotIn(walk.cards[card], walk.givers)
        walk.meet(walk.cards[card], 1, (begun.get(card, 0),))
    case.assertEqual(sorted(walk.met_parts), list(range(len(net[1]))))
    case.assertEqual(sorted(walk.met_lines), list(range(len(net[0]))))
    check_takers(case, net)


def check_takers(case, net):
    """Every line but a store's and the outlet's has one taker."""
    takers = [line for part in net[1] for line in taken_by(part)]
    ends = [line for _, line in net[2]]
    case.assertEqual(sorted(line for line in takers if line not in ends),
                     sorted(set(range(len(net[0]))) - set(ends)))
