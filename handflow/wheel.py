"""The wheel on which all numbers of a run lie, and what the signs make of them."""

from handflow.tree import variables_of

# Ten to the thirtieth.
WHEEL = 1000000000000000000000000000000


def done(sign, a, b):
    if sign == "/":
        return 0 if b == 0 else a // b
    if sign == "<":
        return 1 if a < b else 0
    if sign == "=":
        return 1 if a == b else 0
    return reckoned(sign, a, b) % WHEEL


def reckoned(sign, a, b):
    if sign == "+":
        return a + b
    if sign == "-":
        return a - b
    if sign == "*":
        return a * b
    if sign == "&":
        return a & b
    if sign == "|":
        return a | b
    return a ^ b


def beginnings(program, numbers):
    begun = dict([(name, 0) for name in variables_of(program)])
    # The shorter of the two ends the walk: too few numbers leave a 0, too many are passed over.
    for name, number in zip(program[0], numbers):
        begun[name] = number % WHEEL
    return begun
