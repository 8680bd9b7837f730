"""The yard with the things on the lines of a net, and what its parts want and make."""

from handflow.queues import Queue
from handflow.wheel import done


class Yard:
    def __init__(self, lines):
        self.lengths = [length for length, first in lines]
        self.queues = [Queue(first) for length, first in lines]

    def holds(self, line):
        return self.queues[line].standing()

    def room(self, line):
        length = self.lengths[line]
        return length is None or self.holds(line) < length

    def first(self, line):
        return self.queues[line].head()

    def hand(self, line, thing):
        self.queues[line].lay(thing)

    def taken(self, line):
        return self.queues[line].take()

    def stands(self):
        return [queue.rest() for queue in self.queues]


class Part:
    def __init__(self, ins):
        self.ins = ins

    def wants(self, yard):
        return self.ins


class Pass(Part):
    def __init__(self, ins, outs, route):
        Part.__init__(self, ins)
        self.outs = outs
        self.route = route

    def made(self, things):
        return [(line, things[place]) for line, place in zip(self.outs, self.route)]


class Work(Part):
    def __init__(self, ins, out, sign, sides):
        Part.__init__(self, ins)
        self.out = out
        self.sign = sign
        self.sides = sides

    def made(self, things):
        left = on_side(self.sides[0], things)
        right = on_side(self.sides[1], things)
        return [(self.out, done(self.sign, left, right))]


class Choose(Part):
    def __init__(self, ins, which, ones, noughts, told):
        Part.__init__(self, ins)
        self.which = which
        self.ones = ones
        self.noughts = noughts
        self.told = told

    def made(self, things):
        if things[self.which] == 0:
            return list(zip(self.noughts, things)) + [(self.told, 0)]
        return list(zip(self.ones, things)) + [(self.told, 1)]


class Merge(Part):
    def __init__(self, told, ones, noughts, outs):
        Part.__init__(self, (told,))
        self.ones = ones
        self.noughts = noughts
        self.outs = outs

    def wants(self, yard):
        thing = yard.first(self.ins[0])
        if thing is None:
            return self.ins
        return self.ins + (self.noughts if thing == 0 else self.ones)

    def made(self, things):
        return list(zip(self.outs, things[1:]))


def on_side(side, things):
    return things[side[1]] if side[0] == "in" else side[1]


def part_of(row):
    kind = row[0]
    if kind == "pass":
        return Pass(row[1], row[2], row[3])
    if kind == "work":
        return Work(row[1], row[2], row[3], row[4:])
    if kind == "choose":
        return Choose(row[1], row[2], row[3], row[4], row[5])
    return Merge(row[1], row[2], row[3], row[4])
