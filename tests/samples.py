"""Programs for the tests, made by a seed: the same ones each time."""

import copy
import random

from handflow.deeds import deeds_of
from handflow.errors import FlowError
from handflow.reader import read

NAMES = ("a", "b", "c", "q", "r", "x")
STORES = ("q", "r", "s")
SIGNS = "+-*/<=&|^"
NUMBERS = (0, 1, 2, 3, 7, 10 ** 15, 10 ** 30 - 1)


class Sampler:
    def __init__(self, seed, most_rounds=3):
        self.chance = random.Random(seed)
        self.most_rounds = most_rounds
        self.rows_left = 40

    def value(self):
        return self.chance.choice(NAMES + NUMBERS)

    def name(self):
        return self.chance.choice(NAMES)

    def heads(self):
        rows = [f"ask {name}" for name in NAMES if self.chance.random() < 0.4]
        rows += [f"store {store} {self.chance.randint(1, 4)}" for store in STORES]
        self.chance.shuffle(rows)
        return rows

    def block(self, depth, hidden):
        rows = []
        for _ in range(self.chance.randint(0, 5)):
            if self.rows_left > 0:
                self.rows_left -= 1
                rows += self.deed(depth, hidden)
        return rows

    def deed(self, depth, hidden):
        kinds = ["set", "give"]
        if not hidden:
            kinds += ["put", "put", "put", "get", "get"]
        if depth < 4:
            kinds += ["if", "while", "repeat", "repeat"]
        return self.rows_of_kind(self.chance.choice(kinds), depth, hidden)

    def rows_of_kind(self, kind, depth, hidden):
        if kind == "set":
            return [f"{self.name()} = {self.value()} {self.chance.choice(SIGNS)} {self.value()}"]
        if kind == "give":
            return [f"give {self.name()}"]
        if kind in ("put", "get"):
            return [f"{kind} {self.chance.choice(STORES)} {self.name()}"]
        if kind == "repeat":
            return [f"repeat {self.chance.randint(0, self.most_rounds)}", *self.block(depth + 1, hidden), "end"]
        rows = [f"{kind} {self.name()}", *self.block(depth + 1, True)]
        if kind == "if" and self.chance.random() < 0.5:
            rows += ["else", *self.block(depth + 1, True)]
        return rows + ["end"]


def sample(seed, most_rounds=3):
    """A text that is read; its gets may find an empty store."""
    sampler = Sampler(seed, most_rounds)
    return "\n".join(sampler.heads() + sampler.block(0, False) + sampler.block(0, False))


def fed_texts(count, most_rounds=3):
    """So many samples that aren't refused and have a put."""
    found = []
    seed = 0
    while len(found) < count:
        text = sample(seed, most_rounds)
        seed += 1
        try:
            deeds = deeds_of(read(text))
        except FlowError:
            continue
        if any(deed[0] == "put" for deed in deeds):
            found.append(text)
    return found


def fed_samples(count, most_rounds=3):
    """Pairs of deeds and stores, of such samples."""
    programs = [read(text) for text in fed_texts(count, most_rounds)]
    return [(deeds_of(program), program[1]) for program in programs]


def check_asked_of_bodies(case, ask):
    """A list told of a body is the asker's own, and the body stays as it was."""
    for seed in range(30):
        body = read(sample(seed))[2]
        before = copy.deepcopy(body)
        told = ask(body)
        case.assertEqual(body, before)
        told.append("changed")
        case.assertEqual(ask(body), told[:-1])
        case.assertEqual(body, before)
