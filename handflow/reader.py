"""A text, read row by row into a program."""

from handflow.errors import BadNest, Hidden, NoStore, Twice
from handflow.rows import row_of

HEADS = ("ask", "store")
OPENERS = ("if", "while", "repeat")
MOVES = ("put", "get")
MOST_BLOCKS = 12


class Block:
    def __init__(self, form):
        self.form = form
        self.deeds = []
        self.others = []
        self.turned = False

    def lay(self, deed):
        if self.turned:
            self.others.append(deed)
        else:
            self.deeds.append(deed)

    def turn(self):
        self.turned = True

    def may_turn(self):
        return self.form[0] == "if" and not self.turned

    def whole(self):
        if self.form[0] == "if":
            return self.form + (self.deeds, self.others)
        return self.form + (self.deeds,)


class Reading:
    def __init__(self):
        # Dicts, so that a name is found at once and the order is kept.
        self.asks = {}
        self.stores = {}
        self.body = []
        self.blocks = []
        self.begun = False

    def enter(self, form):
        if form[0] == "ask":
            self.asks[form[1]] = True
        elif form[0] == "store":
            self.stores[form[1]] = form[2]
        else:
            self.begun = True
            self.follow(form)

    def follow(self, form):
        if form[0] in OPENERS:
            self.blocks.append(Block(form))
        elif form[0] == "else":
            self.blocks[-1].turn()
        elif form[0] == "end":
            block = self.blocks.pop()
            self.lay_down(block.whole())
        else:
            self.lay_down(form)

    def lay_down(self, deed):
        if len(self.blocks) == 0:
            self.body.append(deed)
        else:
            self.blocks[-1].lay(deed)

    def may_turn_innermost(self):
        return len(self.blocks) > 0 and self.blocks[-1].may_turn()

    def is_hiding(self):
        return any([block.form[0] != "repeat" for block in self.blocks])


def read(text):
    rows = text.split("\n")
    reading = Reading()
    for place, row in enumerate(rows, start=1):
        form = row_of(row, place)
        if form is not None:
            check(reading, form, place)
            reading.enter(form)
    if len(reading.blocks) > 0:
        raise BadNest("a block has no end", len(rows))
    return (list(reading.asks), list(reading.stores.items()), reading.body)


def check(reading, form, place):
    check_nest(reading, form[0], place)
    if form[0] in HEADS:
        check_twice(reading, form, place)
    if form[0] in MOVES:
        check_move(reading, form[1], place)


def check_nest(reading, head, place):
    if head in HEADS and reading.begun:
        raise BadNest(f"row {place}: {head} stands behind a row of another form", place)
    if head == "else" and not reading.may_turn_innermost():
        raise BadNest(f"row {place}: else has no if of its own", place)
    if head == "end" and len(reading.blocks) == 0:
        raise BadNest(f"row {place}: end has no block", place)
    if head in OPENERS and len(reading.blocks) >= MOST_BLOCKS:
        raise BadNest(f"row {place}: too many blocks within one another", place)


def check_twice(reading, form, place):
    name = form[1]
    told = reading.asks if form[0] == "ask" else reading.stores
    if name in told:
        raise Twice(f"row {place}: {name} is told twice", place)


def check_move(reading, store, place):
    if store not in reading.stores:
        raise NoStore(f"row {place}: no row tells the store {store}", place)
    if reading.is_hiding():
        raise Hidden(f"row {place}: the store {store} is used within an if or a while", place)
