import copy
import unittest

from handflow.cards import touched
from handflow.deeds import deeds_of
from handflow.errors import FlowError, Starved, TooMuch
from handflow.reader import read
from samples import sample


def deeds_in(*rows):
    return deeds_of(read("\n".join(rows)))


def gate(*cards):
    return ("gate", cards, (), None, None)


def end(*cards):
    return ("end", cards, (), None, None)


def first_starved(deeds):
    for number, deed in enumerate(deeds):
        puts = sum(other[3] == deed[4] for other in deeds[:number])
        gets = sum(other[4] == deed[4] for other in deeds[:number])
        if deed[4] is not None and puts == gets:
            return number
    return None


GIVE_X = ("give", (">",), ("x",), None, None)


class Written(unittest.TestCase):
    def test_the_empty_program(self):
        self.assertEqual(deeds_of(([], [], [])), [end(">")])

    def test_the_end_owns_all_cards(self):
        self.assertEqual(deeds_in("ask n", "store q 1"), [end(">", "n", "q<", "q>")])
        self.assertEqual(deeds_in("ask n", "store q 1", "repeat 0", "x = y", "end")[-1],
                         end(">", "n", "q<", "q>", "x", "y"))

    def test_kinds(self):
        told = deeds_in("store q 1", "put q x", "get q x", "x = a + b", "give x", "if x", "end", "repeat 1", "end")
        self.assertIs(type(told), list)
        for deed in told:
            self.assertEqual([type(part) for part in deed[:3]], [str, tuple, tuple])
        self.assertEqual([deed[0] for deed in told], ["put", "get", "set", "give", "if", "gate", "gate", "end"])

    def check_set(self, row, reads):
        self.assertEqual(deeds_in(row)[:-1], [("set", ("x",), reads, None, None)])

    def test_sets(self):
        self.check_set("x = 1 + 2", ())
        self.check_set("x = 1", ())
        self.check_set("x = a", ("a",))
        self.check_set("x = 1 - a", ("a",))
        self.check_set("x = a - b", ("a", "b"))
        self.check_set("x = b - a", ("a", "b"))
        self.check_set("x = a * a", ("a",))
        self.check_set("x = x + 1", ())
        self.check_set("x = x + x", ())
        self.check_set("x = x + z", ("z",))
        self.check_set("x = z + x", ("z",))

    def test_puts_gets_and_gives(self):
        self.assertEqual(deeds_in("store q 1", "put q x", "get q y", "give x"), [
            ("put", ("q>",), ("x",), "q", None),
            ("get", ("q<", "y"), (), None, "q"),
            GIVE_X,
            end(">", "q<", "q>", "x", "y"),
        ])

    def test_the_cards_of_a_get_are_sorted(self):
        for name, owns in (("a", ("a", "q<")), ("q", ("q", "q<")), ("qa", ("q<", "qa")), ("r", ("q<", "r"))):
            self.assertEqual(deeds_in("store q 1", "put q x", f"get q {name}")[1], ("get", owns, (), None, "q"))

    def test_an_if_is_one_deed(self):
        rows = ("if c", "x = y", "repeat 3", "give b", "end", "else", "while d", "a = 1", "end", "end")
        self.assertEqual(deeds_in(*rows)[:-1], [("if", (">", "a", "b", "c", "d", "x", "y"), (), None, None)])
        self.assertEqual(deeds_in("if c", "end")[:-1], [("if", ("c",), (), None, None)])

    def test_a_while_is_one_deed(self):
        self.assertEqual(deeds_in("while c", "end")[:-1], [("while", (">", "c"), (), None, None)])
        rows = ("while c", "x = y", "if b", "else", "z = z", "end", "repeat 99", "end", "end")
        self.assertEqual(deeds_in(*rows)[:-1], [("while", (">", "b", "c", "x", "y", "z"), (), None, None)])

    def test_repeats(self):
        self.assertEqual(deeds_in("repeat 0", "give x", "end")[:-1], [gate(">", "x")])
        self.assertEqual(deeds_in("repeat 1", "give x", "end")[:-1], [gate(">", "x"), GIVE_X, gate(">", "x")])
        self.assertEqual(deeds_in("repeat 3", "give x", "end")[:-1], [gate(">", "x")] + [GIVE_X, gate(">", "x")] * 3)

    def test_a_repeat_of_nothing(self):
        self.assertEqual(deeds_in("repeat 4", "end")[:-1], [gate()] * 5)

    def test_repeats_within_repeats(self):
        inner = [gate("x")] + [("set", ("x",), (), None, None), gate("x")] * 2
        outer = gate(">", "x", "y")
        give = ("give", (">",), ("y",), None, None)
        told = deeds_in("repeat 3", "repeat 2", "x = x + 1", "end", "give y", "end", "give x")
        self.assertEqual(told, [outer] + (inner + [give, outer]) * 3 + [GIVE_X, end(">", "x", "y")])

    def test_a_repeat_of_none_within_repeats(self):
        told = deeds_in("repeat 2", "repeat 0", "give x", "end", "y = 1", "end")
        outer = gate(">", "x", "y")
        self.assertEqual(told[:-1], [outer] + [gate(">", "x"), ("set", ("y",), (), None, None), outer] * 2)

    def test_against_another_telling(self):
        def walk(block):
            for deed in block:
                kind, name = deed[:2]
                if kind == "repeat":
                    yield gate(*touched(deed[2]))
                    for _ in range(name):
                        yield from walk(deed[2])
                        yield gate(*touched(deed[2]))
                elif kind == "set":
                    yield (kind, (name,), tuple(card for card in touched([deed]) if card != name), None, None)
                elif kind == "put":
                    yield (kind, (name + ">",), (deed[2],), name, None)
                elif kind == "get":
                    yield (kind, tuple(touched([deed])), (), None, name)
                elif kind == "give":
                    yield (kind, (">",), (name,), None, None)
                else:
                    yield (kind, tuple(touched([deed])), (), None, None)

        starved = written = 0
        for seed in range(300):
            program = read(sample(seed))
            want = list(walk(program[2]))
            try:
                told = deeds_of(program)
            except Starved as error:
                starved += 1
                self.assertEqual(error.place, first_starved(want))
                continue
            written += 1
            self.assertIsNone(first_starved(want))
            self.assertEqual(told[:-1], want)
        self.assertGreater(min(starved, written), 50)


class Refusals(unittest.TestCase):
    def check_refused(self, kind, place, *rows):
        with self.assertRaises(FlowError) as caught:
            deeds_in(*rows)
        self.assertEqual((type(caught.exception), caught.exception.place), (kind, place))

    def test_just_enough_deeds(self):
        # 99 rounds of 19 sets and a gate, the gate ahead, 18 sets and the end: 2,000.
        rows = ["repeat 99"] + ["x = 1"] * 19 + ["end"] + ["x = 1"] * 18
        self.assertEqual(len(deeds_in(*rows)), 2000)
        self.check_refused(TooMuch, 2000, *rows, "x = 1")
        self.check_refused(TooMuch, 2000, *rows, "repeat 0", "end")

    def test_rows_alone(self):
        body = [("give", "x")] * 1999
        self.assertEqual(len(deeds_of(([], [], body))), 2000)
        with self.assertRaises(TooMuch) as caught:
            deeds_of(([], [], body + [("give", "x")]))
        self.assertEqual(caught.exception.place, 2000)

    def test_gates_count(self):
        # 1 + 19 * (1 + 99 + 1) deeds of gates alone.
        rows = ("repeat 19", "repeat 99", "end", "end")
        self.assertEqual(len(deeds_in(*rows)), 1 + 19 * (100 + 1) + 1)
        self.check_refused(TooMuch, 2000, "repeat 20", "repeat 99", "end", "end")

    def test_far_too_much(self):
        self.check_refused(TooMuch, 2000, *["repeat 99"] * 12, "x = 1", *["end"] * 12)
        self.check_refused(TooMuch, 2000, *["repeat 99"] * 12, *["end"] * 12)

    def test_much_within_a_repeat_of_none(self):
        rows = ["repeat 0"] + ["repeat 99"] * 11 + ["x = 1"] + ["end"] * 12
        self.assertEqual(deeds_in(*rows), [gate("x"), end(">", "x")])
        rows = ["repeat 2", "repeat 0"] + ["repeat 99"] * 10 + ["x = 1"] + ["end"] * 12
        self.assertEqual(deeds_in(*rows), [gate("x")] * 5 + [end(">", "x")])

    def test_what_an_if_holds_counts_nothing(self):
        rows = ["if c"] + ["repeat 99"] * 11 + ["x = 1"] + ["end"] * 12
        self.assertEqual(len(deeds_in(*rows)), 2)

    def test_starved(self):
        self.check_refused(Starved, 0, "store q 1", "get q x")
        self.check_refused(Starved, 2, "store q 1", "put q x", "get q x", "get q x", "get q x")
        self.check_refused(Starved, 1, "store q 1", "store r 1", "put q x", "get r x", "get q x")
        self.check_refused(Starved, 1, "store q 1", "x = 1", "get q x", "put q x")
        self.check_refused(Starved, 4, "store q 1", "put q x", "repeat 2", "get q x", "end")
        self.check_refused(Starved, 3, "store q 1", "repeat 0", "put q x", "end", "if c", "end", "x = 1", "get q x")

    def test_not_starved(self):
        self.assertEqual(len(deeds_in("store q 1", "repeat 0", "get q x", "end")), 2)
        self.assertEqual(len(deeds_in("store q 1", "put q x", "put q x", "get q x", "get q x")), 5)
        self.assertEqual(len(deeds_in("store q 1", "repeat 3", "put q x", "get q x", "end")), 1 + 3 * 3 + 1)

    def test_too_much_ahead_of_starved(self):
        self.check_refused(TooMuch, 2000, "store q 1", "get q x", *["repeat 99"] * 2, "end", "end")
        self.check_refused(Starved, 0, "store q 1", "get q x", *["repeat 40"] * 2, "end", "end")


class Asking(unittest.TestCase):
    def test_nothing_is_changed(self):
        program = read("ask n\nstore q 1\nput q n\nrepeat 2\nif n\ngive n\nend\nend\nget q n")
        before = copy.deepcopy(program)
        told = deeds_of(program)
        kept = list(told)
        self.assertEqual(program, before)
        told.append("changed")
        told[0] = None
        self.assertEqual(deeds_of(program), kept)


if __name__ == "__main__":
    unittest.main()
