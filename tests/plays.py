"""What [26] to [31] and [35] ask of plays, said once more and slowly; and nets made by a seed."""

import random

from handflow.wheel import done
from nets import given_by, taken_by

PACES = (
    None, [], [[]], [[0]], [[1]], [[0, 2, 1], [], [5]], [[], [3]], [[7, 0], [0, 0, 4], [1], [0], [2, 9, 0, 1]],
    [[10 ** 12], [0, 10 ** 12, 5]],
)


def wanted_by(part, stands):
    if part[0] != "merge":
        return part[1]
    told = stands[part[1]]
    return (part[1],) + (() if not told else part[2] if told[0] != 0 else part[3])


def made_by(part, things):
    if part[0] == "pass":
        return [(line, things[k]) for line, k in zip(part[2], part[3], strict=True)]
    if part[0] == "work":
        sides = [things[value] if word == "in" else value for word, value in part[4:]]
        return [(part[2], done(part[3], *sides))]
    if part[0] == "choose":
        one = things[part[2]] != 0
        return [*zip(part[3] if one else part[4], things, strict=True), (part[5], 1 if one else 0)]
    return list(zip(part[4], things[1:], strict=True))


def slow_play(lines, parts, pace=None, most=5000):
    """Looks at every part in every turn in which anything may be done."""
    stands = [list(first) for _, first in lines]
    held = [None] * len(parts)
    due = [0] * len(parts)
    takings = [0] * len(parts)
    log = []
    turn = 0
    while True:
        before = len(log)
        for k in range(len(parts)):
            if held[k] is not None and due[k] <= turn:
                if all(lines[line][0] is None or len(stands[line]) < lines[line][0] for line, _ in held[k]):
                    for line, thing in held[k]:
                        stands[line].append(thing)
                    log.append((turn, k, "gave", held[k]))
                    held[k] = None
        for k, part in enumerate(parts):
            wanted = wanted_by(part, stands)
            if held[k] is None and all(stands[line] for line in wanted):
                if sum(takings) == most:
                    return (False, log, stands)
                things = [stands[line].pop(0) for line in wanted]
                log.append((turn, k, "took", list(zip(wanted, things))))
                held[k] = made_by(part, things)
                row = pace[k % len(pace)] if pace else []
                due[k] = turn + 1 + (row[takings[k] % len(row)] if row else 0)
                takings[k] += 1
        later = [due[k] for k in range(len(parts)) if held[k] is not None and due[k] > turn]
        if len(log) == before and not later:
            return (True, log, stands)
        turn = turn + 1 if len(log) > before else min(later)


def check_played(case, lines, parts, pace, most, told):
    """The log, thing by thing: nothing lost, doubled or overtaken, no line fuller than its length."""
    still, log, left = told
    stands = [list(first) for _, first in lines]
    held = {}
    for turn, part, word, things in log:
        if word == "took":
            case.assertNotIn(part, held)
            case.assertEqual(tuple(line for line, _ in things), wanted_by(parts[part], stands))
            for line, thing in things:
                case.assertEqual(stands[line].pop(0), thing)
            held[part] = made_by(parts[part], [thing for _, thing in things])
        else:
            case.assertEqual((word, things), ("gave", held.pop(part)))
            for line, thing in things:
                stands[line].append(thing)
                case.assertTrue(lines[line][0] is None or len(stands[line]) <= lines[line][0])
    case.assertEqual(left, stands)
    turns = [turn for turn, _, _, _ in log]
    case.assertEqual(turns, sorted(turns))
    case.assertLessEqual(sum(word == "took" for _, _, word, _ in log), most)


class NetSampler:
    """Any net of the forms of [21] that the player may be asked with."""

    def __init__(self, seed):
        self.chance = random.Random(seed)
        self.lines = [self.line() for _ in range(self.chance.randint(4, 24))]
        numbers = list(range(len(self.lines)))
        self.to_take = self.chance.sample(numbers, len(numbers))
        self.to_give = self.chance.sample(numbers, len(numbers))

    def thing(self):
        return self.chance.choice((0, 0, 1, 2, 3, 10 ** 30 - 1))

    def line(self):
        length = self.chance.choice((None, 1, 1, 1, 2, 3))
        count = self.chance.randint(0, 4 if length is None else length)
        return (length, tuple(self.thing() for _ in range(count)))

    def drawn(self, pool, count):
        if len(pool) < count:
            return None
        return tuple(pool.pop() for _ in range(count))

    def part(self):
        kind = self.chance.choice(("pass", "pass", "work", "choose", "merge"))
        count = self.chance.choice((0, 1, 1, 1, 2, 2, 3))
        return getattr(self, "part_" + kind)(count)

    def part_pass(self, count):
        ins = self.drawn(self.to_take, self.chance.choice((1, 1, 2, 3)))
        outs = self.drawn(self.to_give, count)
        if ins is None or outs is None:
            return None
        return ("pass", ins, outs, tuple(self.chance.randrange(len(ins)) for _ in outs))

    def part_work(self, count):
        ins = self.drawn(self.to_take, max(count, 1))
        outs = self.drawn(self.to_give, 1)
        if ins is None or outs is None:
            return None
        sides = [self.chance.choice((("in", self.chance.randrange(len(ins))), ("is", self.thing()))) for _ in range(2)]
        return ("work", ins, outs[0], self.chance.choice("+-*/<=&|^"), *sides)

    def part_choose(self, count):
        count = max(count, 1)
        ins = self.drawn(self.to_take, count)
        outs = self.drawn(self.to_give, 2 * count + 1)
        if ins is None or outs is None:
            return None
        return ("choose", ins, self.chance.randrange(count), outs[:count], outs[count:-1], outs[-1])

    def part_merge(self, count):
        ins = self.drawn(self.to_take, 2 * count + 1)
        outs = self.drawn(self.to_give, count)
        if ins is None or outs is None:
            return None
        return ("merge", ins[-1], ins[:count], ins[count:-1], outs)


def net_sample(seed):
    """A pair of lines and parts."""
    sampler = NetSampler(seed)
    drawn = [sampler.part() for _ in range(sampler.chance.randint(1, 12))]
    return sampler.lines, [part for part in drawn if part is not None]


def pace_sample(seed, most_rest=4):
    chance = random.Random(seed)
    return [[chance.randint(0, most_rest) for _ in range(chance.randint(0, 3))] for _ in range(chance.randint(1, 7))]


def single_lines(lines, parts):
    """The lines that have at most one giver and at most one taker."""
    takers = [line for part in parts for line in taken_by(part)]
    givers = [line for part in parts for line in given_by(part)]
    return [line for line in range(len(lines)) if takers.count(line) <= 1 and givers.count(line) <= 1]


def is_beginning(short, long):
    return long[:len(short)] == short
