"""The bench on which a net is put together."""

from handflow.cards import OUTLET, cards_of
from handflow.wheel import beginnings


class Bench:
    def __init__(self):
        self.lines = []
        self.parts = []
        # The lines of the stores and of the outlet, in the order in which they are told.
        self.ends = {}
        # For each card the line on which it comes, as far as the net is laid.
        self.coming = {}

    def add_line(self, length, first):
        self.lines.append((length, first))
        return len(self.lines) - 1

    def add_wires(self, count):
        return tuple([self.add_line(1, ()) for wire in range(count)])

    def add_part(self, part):
        self.parts.append(part)

    def wires_of(self, cards):
        return tuple([self.coming[card] for card in cards])

    def lead(self, cards, wires):
        for card, wire in zip(cards, wires):
            self.coming[card] = wire


def bench_for(program, numbers):
    bench = Bench()
    for store, length in program[1]:
        bench.ends[store] = bench.add_line(length, ())
    bench.ends[OUTLET] = bench.add_line(None, ())
    begun = beginnings(program, numbers)
    for card in cards_of(program):
        bench.coming[card] = bench.add_line(1, (begun.get(card, 0),))
    return bench
