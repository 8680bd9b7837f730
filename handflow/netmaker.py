"""The net of a program: the parts of its blocks, and the whole."""

from handflow.bench import bench_for
from handflow.cards import cards_of, touched
from handflow.single import lay_single


def net_of(program, numbers):
    bench = bench_for(program, numbers)
    lay_block(bench, program[2])
    bench.add_part(("pass", bench.wires_of(cards_of(program)), (), ()))
    return (bench.lines, bench.parts, list(bench.ends.items()))


def lay_block(bench, block):
    for deed in block:
        if deed[0] == "if":
            lay_if(bench, deed)
        elif deed[0] == "while":
            lay_while(bench, deed)
        elif deed[0] == "repeat":
            lay_repeat(bench, deed[1], deed[2])
        else:
            lay_single(bench, deed)


def lay_through(bench, block, cards, wires):
    bench.lead(cards, wires)
    lay_block(bench, block)
    return bench.wires_of(cards)


def lay_if(bench, deed):
    cards = touched([deed])
    ins = bench.wires_of(cards)
    ones = bench.add_wires(len(cards))
    noughts = bench.add_wires(len(cards))
    told = bench.add_line(1, ())
    bench.add_part(("choose", ins, cards.index(deed[1]), ones, noughts, told))
    ones_behind = lay_through(bench, deed[2], cards, ones)
    noughts_behind = lay_through(bench, deed[3], cards, noughts)
    outs = bench.add_wires(len(cards))
    bench.add_part(("merge", told, ones_behind, noughts_behind, outs))
    bench.lead(cards, outs)


def lay_while(bench, deed):
    cards = touched([deed])
    lay_loop(bench, cards, deed[1], deed[2], bench.add_wires(len(cards)))


def lay_repeat(bench, rounds, body):
    cards = touched(body)
    if len(cards) == 0:
        return
    rest = bench.add_line(1, (0,))
    # A card of its own, and so under a name that no other card has: the number of its line of rest.
    counter = str(rest)
    wires = bench.add_wires(1)
    bench.add_part(("work", (rest,), wires[0], "+", ("is", rounds), ("is", 0)))
    bench.lead([counter], wires)
    counting = body + [("set", counter, counter, "-", 1)]
    lay_loop(bench, cards + [counter], counter, counting, bench.add_wires(len(cards)) + (rest,))


def lay_loop(bench, cards, name, body, behind):
    coming = bench.wires_of(cards)
    told = bench.add_line(1, (0,))
    ins = bench.add_wires(len(cards))
    ones = bench.add_wires(len(cards))
    bench.add_part(("choose", ins, cards.index(name), ones, behind, told))
    bench.add_part(("merge", told, lay_through(bench, body, cards, ones), coming, ins))
    bench.lead(cards, behind)
