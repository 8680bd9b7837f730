"""The plain run of a program, deed by deed."""

from handflow.errors import Starved
from handflow.queues import Queue
from handflow.wheel import beginnings, done


class Run:
    def __init__(self, numbers, stores, most):
        self.numbers = numbers
        self.queues = dict([(store, Queue([])) for store in stores])
        self.outs = []
        self.steps = 0
        self.most = most

    # The methods that do something tell whether it came to its end; False where the run is stopped.
    def do_block(self, block):
        for deed in block:
            if not self.do_deed(deed):
                return False
        return True

    def do_deed(self, deed):
        kind = deed[0]
        if kind == "if":
            return self.do_if(deed[1], deed[2], deed[3])
        if kind == "while":
            return self.do_while(deed[1], deed[2])
        if kind == "repeat":
            return self.do_repeat(deed[1], deed[2])
        if self.is_spent():
            return False
        self.do_plain(deed)
        return self.do_step()

    def do_if(self, name, then, other):
        if not self.do_step():
            return False
        return self.do_block(other if self.numbers[name] == 0 else then)

    def do_while(self, name, body):
        while self.do_step():
            if self.numbers[name] == 0:
                return True
            if not self.do_block(body):
                return False
        return False

    def do_repeat(self, rounds, body):
        for count in range(rounds):
            if not self.do_step() or not self.do_block(body):
                return False
        return self.do_step()

    def do_step(self):
        if self.is_spent():
            return False
        self.steps = self.steps + 1
        return True

    def is_spent(self):
        return self.steps >= self.most

    def do_plain(self, deed):
        kind = deed[0]
        if kind == "set":
            self.numbers[deed[1]] = done(deed[3], self.number_of(deed[2]), self.number_of(deed[4]))
        elif kind == "put":
            self.queues[deed[1]].lay(self.numbers[deed[2]])
        elif kind == "get":
            self.numbers[deed[2]] = self.got_from(deed[1])
        else:
            self.outs.append(self.numbers[deed[1]])

    def number_of(self, value):
        return self.numbers[value] if isinstance(value, str) else value

    def got_from(self, store):
        if self.queues[store].standing() == 0:
            raise Starved(f"nothing stands in the store {store}", self.steps)
        return self.queues[store].take()


def run(program, numbers, most=5000):
    stores = [store for store, length in program[1]]
    running = Run(beginnings(program, numbers), stores, most)
    ended = running.do_block(program[2])
    # Sorted by name already: so the beginnings told them, and no name came since.
    finals = list(running.numbers.items())
    left = [(store, running.queues[store].rest()) for store in stores]
    return (ended, running.steps, running.outs, finals, left)
