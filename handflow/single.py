"""The parts of single deeds: set, put, give and get."""

from handflow.cards import OUTLET, get_card, put_card
from handflow.tree import read_by_set


def lay_single(bench, deed):
    kind = deed[0]
    if kind == "set":
        lay_set(bench, deed)
    elif kind == "put":
        lay_handing(bench, put_card(deed[1]), deed[2], deed[1])
    elif kind == "give":
        lay_handing(bench, OUTLET, deed[1], OUTLET)
    else:
        lay_get(bench, deed[1], deed[2])


def lay_fork(bench, name):
    wires = bench.add_wires(2)
    bench.add_part(("pass", bench.wires_of([name]), wires, (0, 0)))
    bench.lead([name], wires[1:])
    return wires[0]


def lay_set(bench, deed):
    name = deed[1]
    reads = read_by_set(deed)
    ins = bench.wires_of([name]) + tuple([lay_fork(bench, other) for other in reads])
    outs = bench.add_wires(1)
    sources = [name] + reads
    bench.add_part(("work", ins, outs[0], deed[3], side_of(deed[2], sources), side_of(deed[4], sources)))
    bench.lead([name], outs)


def side_of(value, sources):
    if isinstance(value, str):
        return ("in", sources.index(value))
    return ("is", value)


def lay_handing(bench, card, name, end):
    ins = bench.wires_of([card]) + (lay_fork(bench, name),)
    wires = bench.add_wires(1)
    bench.add_part(("pass", ins, wires + (bench.ends[end],), (0, 1)))
    bench.lead([card], wires)


def lay_get(bench, store, name):
    cards = [get_card(store), name]
    ins = bench.wires_of(cards) + (bench.ends[store],)
    wires = bench.add_wires(2)
    bench.add_part(("pass", ins, wires, (0, 2)))
    bench.lead(cards, wires)
