"""The refusals: each a class of its own, straight under FlowError."""


class FlowError(ValueError):
    def __init__(self, words, place):
        ValueError.__init__(self, words)
        self.place = place


class BadRow(FlowError):
    pass


class BadNest(FlowError):
    pass


class Twice(FlowError):
    pass


class NoStore(FlowError):
    pass


class Hidden(FlowError):
    pass


class Starved(FlowError):
    pass


class TooMuch(FlowError):
    pass
