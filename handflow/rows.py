"""One row of a text, read alone."""

from handflow.errors import BadRow
from handflow.words import SIGNS, is_name, number_in, value_in

# What each keyword asks of the words behind it.
FORMS = {
    "ask": ("name",),
    "store": ("name", "length"),
    "put": ("name", "name"),
    "get": ("name", "name"),
    "give": ("name",),
    "if": ("name",),
    "else": (),
    "while": ("name",),
    "repeat": ("rounds",),
    "end": (),
}
SET_FORM = ("name", "value", "sign", "value")
MOST_LENGTH = 2000
MOST_ROUNDS = 99


def row_of(row, place):
    words = words_of(row)
    if len(words) == 0:
        return None
    form = form_of(words)
    if form is None:
        raise BadRow(f"row {place} has no form of a row", place)
    return form


def words_of(row):
    # Only the blank parts words: a bare split() would part them at other signs too.
    return [word for word in row.split(" ") if word != ""]


def form_of(words):
    head = words[0]
    if head in FORMS:
        return filled(head, words[1:], FORMS[head])
    if len(words) < 3 or words[1] != "=":
        return None
    right = words[2:]
    if len(right) == 1:
        right = right + ["+", "0"]
    return filled("set", [head] + right, SET_FORM)


def filled(head, words, kinds):
    if len(words) != len(kinds):
        return None
    things = [thing_in(word, kind) for word, kind in zip(words, kinds)]
    if None in things:
        return None
    return (head,) + tuple(things)


def thing_in(word, kind):
    if kind == "name":
        return word if is_name(word) else None
    if kind == "value":
        return value_in(word)
    if kind == "sign":
        return word if word in SIGNS else None
    if kind == "length":
        return number_within(word, 1, MOST_LENGTH)
    return number_within(word, 0, MOST_ROUNDS)


def number_within(word, least, most):
    number = number_in(word)
    if number is None or number < least or number > most:
        return None
    return number
