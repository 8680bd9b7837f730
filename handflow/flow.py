"""The whole: a text looked at, played as a net, and written with longer stores."""

from handflow.cards import cards_of
from handflow.deeds import deeds_of
from handflow.history import history
from handflow.looker import looked
from handflow.mender import mended
from handflow.netmaker import net_of
from handflow.player import play
from handflow.reader import read
from handflow.showing import shown
from handflow.tree import variables_of


def look(text):
    program = read(text)
    return looked(deeds_of(program), program[1])


def flow(text, numbers, pace=None, most=5000):
    program = read(text)
    # Written out for the refusals alone.
    deeds_of(program)
    net = net_of(program, numbers)
    lines = net[0]
    parts = net[1]
    played = play(lines, parts, pace, most)
    log = played[1]
    outlet = net[2][-1][1]
    outs = history(lines, log, outlet)
    last = taken_by(log, len(parts) - 1)
    if last is None:
        return ("still" if played[0] else "cut", outs, None)
    numbers_by_card = dict(zip(cards_of(program), [thing for line, thing in last]))
    return ("ended", outs, [(name, numbers_by_card[name]) for name in variables_of(program)])


def taken_by(log, part):
    for entry in log:
        if entry[1] == part and entry[2] == "took":
            return entry[3]
    return None


def lengthened(text):
    program = read(text)
    longer = mended(deeds_of(program), program[1])[0]
    return shown((program[0], longer, program[2]))
