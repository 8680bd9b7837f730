import copy
import unittest

from handflow.errors import FlowError, Starved
from handflow.plain import run
from handflow.reader import read
from handflow.tree import named
from handflow.wheel import WHEEL
from samples import sample

BIG = 10 ** 9


def ran(*rows, numbers=(), most=5000):
    return run(read("\n".join(rows)), list(numbers), most)


def walked(program, numbers):
    """Another telling of the plain run: one yield ahead of each step."""
    asks, stores, body = program
    variables = {}
    stand = {store: [] for store, _ in stores}
    outs = []

    def number(value):
        return variables.get(value, 0) if isinstance(value, str) else value

    def signed(a, sign, b):
        if sign == "/":
            return a // b if b else 0
        sides = {"<": int.__lt__, "=": int.__eq__, "+": int.__add__, "-": int.__sub__, "*": int.__mul__,
                 "&": int.__and__, "|": int.__or__, "^": int.__xor__}
        return int(sides[sign](a, b)) % 10 ** 30

    def walk(block):
        for deed in block:
            yield
            if deed[0] == "set":
                variables[deed[1]] = signed(number(deed[2]), deed[3], number(deed[4]))
            elif deed[0] == "put":
                stand[deed[1]].append(number(deed[2]))
            elif deed[0] == "get":
                variables[deed[2]] = stand[deed[1]].pop(0)
            elif deed[0] == "give":
                outs.append(number(deed[1]))
            elif deed[0] == "if":
                yield from walk(deed[2] if number(deed[1]) else deed[3])
            elif deed[0] == "while":
                while number(deed[1]):
                    yield from walk(deed[2])
                    yield
            else:
                for _ in range(deed[1]):
                    yield from walk(deed[2])
                    yield

    for k, name in enumerate(asks):
        variables[name] = numbers[k] % 10 ** 30 if k < len(numbers) else 0
    return walk(body), variables, stand, outs


def expected(program, numbers, most):
    steps, variables, stand, outs = walked(program, numbers)
    made = -1
    ended = False
    try:
        for _ in steps:
            made += 1
            if made == most:
                break
        else:
            made += 1
            ended = True
    except IndexError:
        return ("starved", made)
    names = sorted(set(program[0]) | set(named(program[2])))
    finals = [(name, variables.get(name, 0)) for name in names]
    return ended, made, outs, finals, [(store, stand[store]) for store, _ in program[1]]


class Tuples(unittest.TestCase):
    def test_the_empty_program(self):
        self.assertEqual(run(([], [], []), []), (True, 0, [], [], []))
        self.assertEqual(run(([], [], []), [], 0), (True, 0, [], [], []))

    def test_kinds(self):
        told = ran("ask a", "store q 1", "put q a", "give a", numbers=[3])
        self.assertEqual(told, (True, 2, [3], [("a", 3)], [("q", [3])]))
        self.assertEqual([type(thing) for thing in told], [bool, int, list, list, list])
        self.assertEqual([type(thing) for thing in told[3] + told[4]], [tuple, tuple])
        self.assertIs(type(ran("give a", most=0)[0]), bool)

    def test_finals_of_asked_and_named(self):
        told = ran("ask z", "ask b", "give x", "if c", "w = a * k", "else", "d = 1", "end", numbers=[5])
        self.assertEqual(told[3], [("a", 0), ("b", 0), ("c", 0), ("d", 1), ("k", 0), ("w", 0), ("x", 0), ("z", 5)])

    def test_finals_where_nothing_was_done(self):
        told = ran("ask n", "store q 1", "put q p", "get q g", "repeat 0", "x = y", "end", numbers=[4], most=0)
        self.assertEqual(told, (False, 0, [], [("g", 0), ("n", 4), ("p", 0), ("x", 0), ("y", 0)], [("q", [])]))

    def test_a_store_is_no_variable(self):
        self.assertEqual(ran("store q 1", "put q x")[3], [("x", 0)])

    def test_left_in_the_order_of_the_stores(self):
        told = ran("store z 1", "store a 2", "store m 3", "x = 1", "put m x", "put z x", "x = 2", "put m x")
        self.assertEqual(told[4], [("z", [1]), ("a", []), ("m", [1, 2])])

    def test_an_unused_store(self):
        self.assertEqual(ran("store q 1"), (True, 0, [], [], [("q", [])]))


class Beginnings(unittest.TestCase):
    def test_a_variable_begins_with_nought(self):
        self.assertEqual(ran("give x", "x = x + 1")[2:4], ([0], [("x", 1)]))

    def test_numbers_handed_in(self):
        rows = ("ask b", "ask a", "give a", "give b")
        self.assertEqual(ran(*rows, numbers=[1, 2])[2], [2, 1])
        self.assertEqual(ran(*rows, numbers=[1])[2], [0, 1])
        self.assertEqual(ran(*rows, numbers=[])[2], [0, 0])
        self.assertEqual(ran(*rows, numbers=[1, 2, 3, 4])[2], [2, 1])

    def test_asks_parted_by_stores(self):
        self.assertEqual(ran("ask b", "store q 1", "ask a", "give a", "give b", numbers=[1, 2])[2], [2, 1])

    def test_numbers_off_the_wheel(self):
        for number, begins in (
            (-1, WHEEL - 1), (-WHEEL, 0), (-WHEEL - 2, WHEEL - 2), (WHEEL - 1, WHEEL - 1), (WHEEL, 0),
            (WHEEL + 5, 5), (7 * WHEEL + 1, 1), (10 ** 1000 + 3, 3),
        ):
            self.assertEqual(ran("ask a", "give a", numbers=[number])[2:4], ([begins], [("a", begins)]))

    def test_numbers_for_names_that_are_not_asked(self):
        self.assertEqual(ran("give a", numbers=[9])[2], [0])


class Deeds(unittest.TestCase):
    def test_a_set(self):
        self.assertEqual(ran("ask a", "x = a - 3", numbers=[5])[3], [("a", 5), ("x", 2)])
        self.assertEqual(ran("ask a", "x = 3 - a", numbers=[5])[3], [("a", 5), ("x", WHEEL - 2)])
        self.assertEqual(ran("x = 3 < 4")[3], [("x", 1)])
        self.assertEqual(ran("ask x", "x = x * x", numbers=[12])[3], [("x", 144)])
        self.assertEqual(ran("x = 5", "x = 7")[3], [("x", 7)])

    def test_a_put(self):
        self.assertEqual(ran("ask a", "store q 1", "put q a", numbers=[5]), (True, 1, [], [("a", 5)], [("q", [5])]))

    def test_a_get(self):
        told = ran("ask a", "store q 1", "put q a", "get q x", numbers=[5])
        self.assertEqual(told, (True, 2, [], [("a", 5), ("x", 5)], [("q", [])]))

    def test_a_give(self):
        self.assertEqual(ran("ask a", "give a", "give a", "give b", numbers=[5])[2], [5, 5, 0])

    def test_what_was_put_stays_what_it_was(self):
        self.assertEqual(ran("store q 1", "x = 1", "put q x", "x = 2", "get q y", "give y")[2], [1])

    def test_out_in_the_order_in_which_they_went_in(self):
        rows = ["store q 1"]
        for k in range(1, 6):
            rows += [f"x = {k}", "put q x"]
        told = ran(*rows, *["get q y", "give y"] * 3, "x = 9", "put q x", *["get q y", "give y"] * 2)
        self.assertEqual((told[2], told[4]), ([1, 2, 3, 4, 5], [("q", [9])]))

    def test_stores_are_apart(self):
        puts = ("store q 1", "store r 1", "x = 1", "put q x", "x = 2", "put r x")
        self.assertEqual(ran(*puts, "get r a", "get q b", "give a", "give b")[2], [2, 1])

    def test_a_store_called_like_a_variable(self):
        told = ran("ask q", "store q 1", "put q q", "q = q + 1", "put q q", "get q q", numbers=[7])
        self.assertEqual(told[3:], ([("q", 7)], [("q", [8])]))

    def test_more_than_the_length(self):
        told = ran("store q 1", "repeat 50", "put q x", "x = x + 1", "end", "get q y")
        self.assertEqual((told[0], told[4]), (True, [("q", list(range(1, 50)))]))

    def test_an_if_both_ways(self):
        rows = ("ask c", "if c", "x = 1", "else", "x = 2", "end", "give x")
        for number, given in ((0, 2), (1, 1), (2, 1), (WHEEL - 1, 1), (WHEEL, 2)):
            self.assertEqual(ran(*rows, numbers=[number])[2], [given])

    def test_an_if_looks_once(self):
        rows = ("ask c", "if c", "c = 0", "give c", "else", "c = 1", "give c", "end")
        self.assertEqual(ran(*rows, numbers=[1])[2:4], ([0], [("c", 0)]))
        self.assertEqual(ran(*rows, numbers=[0])[2:4], ([1], [("c", 1)]))

    def test_a_while_that_is_never_entered(self):
        self.assertEqual(ran("while c", "give c", "end", "give c")[1:3], (2, [0]))

    def test_a_while_that_goes_round(self):
        rows = ("ask c", "while c", "give c", "c = c - 1", "end")
        self.assertEqual(ran(*rows, numbers=[3])[1:3], (10, [3, 2, 1]))

    def test_repeats(self):
        for rounds in (0, 1, 2, 99):
            told = ran(f"repeat {rounds}", "give x", "x = x + 1", "end")
            self.assertEqual(told[:3], (True, 3 * rounds + 1, list(range(rounds))))

    def test_repeats_within_repeats(self):
        told = ran("repeat 3", "repeat 2", "give x", "x = x + 1", "end", "give y", "y = y + 10", "end")
        self.assertEqual(told[2], [0, 1, 0, 2, 3, 10, 4, 5, 20])
        self.assertEqual(told[1], 4 + 3 * (3 + 4 + 2))
        told = ran("repeat 3", "repeat 0", "give x", "end", "end")
        self.assertEqual(told[:3], (True, 4 + 3, []))

    def test_a_repeat_counts_by_itself(self):
        self.assertEqual(ran("ask n", "repeat 3", "n = 0", "give n", "end", numbers=[9])[2], [0, 0, 0])


class Steps(unittest.TestCase):
    def test_each_deed(self):
        for rows in (("x = 1 + 1",), ("put q x",), ("give x",)):
            self.assertEqual(ran("store q 1", *rows)[:2], (True, 1))
        self.assertEqual(ran("store q 1", "put q x", "get q x")[:2], (True, 2))

    def test_looks(self):
        self.assertEqual(ran("if x", "end")[:2], (True, 1))
        self.assertEqual(ran("ask x", "if x", "end", numbers=[1])[:2], (True, 1))
        self.assertEqual(ran("if x", "else", "y = 1", "y = 2", "end")[:2], (True, 3))
        self.assertEqual(ran("while x", "end")[:2], (True, 1))
        self.assertEqual(ran("ask x", "while x", "x = x - 1", "end", numbers=[2])[:2], (True, 5))
        for rounds in (0, 1, 2, 99):
            self.assertEqual(ran(f"repeat {rounds}", "end")[:2], (True, rounds + 1))

    def test_a_while_without_an_end(self):
        for most in (0, 1, 17, 5000):
            self.assertEqual(ran("ask x", "while x", "end", numbers=[1], most=most)[:2], (False, most))

    def test_most_left_out(self):
        self.assertEqual(run(read("ask x\nwhile x\nend"), [1])[:2], (False, 5000))
        just = "repeat 49\nrepeat 99\nend\nx = 1\nend\nx = 1"
        self.assertEqual(run(read(just), [])[:2], (True, 5000))
        self.assertEqual(run(read(just + "\nx = 1"), [])[:2], (False, 5000))

    def test_most_at_the_edge(self):
        rows = ("ask n", "store q 1", "repeat 2", "put q n", "n = n - 1", "end", "get q x",
                "while x", "x = x / 2", "end", "if n", "else", "give x", "end")
        whole = ran(*rows, numbers=[2])
        self.assertEqual(whole[:2], (True, 7 + 1 + 5 + 2))
        steps = whole[1]
        self.assertEqual(ran(*rows, numbers=[2], most=steps), whole)
        self.assertEqual(ran(*rows, numbers=[2], most=steps + 1), whole)
        self.assertEqual(ran(*rows, numbers=[2], most=steps - 1)[:3], (False, steps - 1, []))
        for most in range(steps):
            self.assertEqual(ran(*rows, numbers=[2], most=most)[:2], (False, most))

    def test_the_last_look_is_a_step_too(self):
        for rows in (("repeat 3", "end"), ("ask x", "while x", "x = x - 1", "end")):
            whole = ran(*rows, numbers=[3])
            self.assertTrue(whole[0])
            self.assertEqual(ran(*rows, numbers=[3], most=whole[1] - 1)[:2], (False, whole[1] - 1))

    def test_stopped_in_the_midst(self):
        rows = ("store q 1", "x = 1", "put q x", "repeat 2", "x = x + 1", "give x", "end", "get q y")
        self.assertEqual(ran(*rows, most=0), (False, 0, [], [("x", 0), ("y", 0)], [("q", [])]))
        self.assertEqual(ran(*rows, most=1), (False, 1, [], [("x", 1), ("y", 0)], [("q", [])]))
        self.assertEqual(ran(*rows, most=2), (False, 2, [], [("x", 1), ("y", 0)], [("q", [1])]))
        self.assertEqual(ran(*rows, most=4), (False, 4, [], [("x", 2), ("y", 0)], [("q", [1])]))
        self.assertEqual(ran(*rows, most=5), (False, 5, [2], [("x", 2), ("y", 0)], [("q", [1])]))
        self.assertEqual(ran(*rows, most=9), (False, 9, [2, 3], [("x", 3), ("y", 0)], [("q", [1])]))
        self.assertEqual(ran(*rows, most=10), (True, 10, [2, 3], [("x", 3), ("y", 1)], [("q", [])]))

    def test_long_stores(self):
        rows = ["store q 1"] + ["repeat 60"] * 3 + ["put q x", "x = x + 1"] + ["end"] * 3
        rows += ["repeat 60"] * 3 + ["get q y"] + ["end"] * 3
        told = ran(*rows, most=BIG)
        self.assertEqual((told[0], told[3], told[4]), (True, [("x", 216000), ("y", 215999)], [("q", [])]))


class Starving(unittest.TestCase):
    def check_starved(self, place, *rows, numbers=(), most=5000):
        with self.assertRaises(FlowError) as caught:
            ran(*rows, numbers=numbers, most=most)
        self.assertEqual((type(caught.exception), caught.exception.place), (Starved, place))

    def test_at_the_first_step(self):
        self.check_starved(0, "store q 1", "get q x")
        self.check_starved(0, "store q 1", "get q x", most=1)

    def test_behind_some_steps(self):
        self.check_starved(2, "store q 1", "put q x", "get q x", "get q x")
        self.check_starved(4, "store q 1", "put q x", "repeat 2", "get q x", "end")
        self.check_starved(5, "ask c", "store q 1", "while c", "c = c - 1", "end", "get q x", numbers=[2])
        self.check_starved(2, "store q 1", "store r 1", "put r x", "if x", "end", "get q x")

    def test_where_most_stops_ahead(self):
        rows = ("store q 1", "put q x", "repeat 2", "get q x", "end")
        self.check_starved(4, *rows, most=5)
        for most in range(5):
            self.assertEqual(ran(*rows, most=most)[:2], (False, most))

    def test_a_get_that_is_not_done(self):
        self.assertEqual(ran("store q 1", "repeat 0", "get q x", "end")[:2], (True, 1))


class Asking(unittest.TestCase):
    def test_nothing_is_changed(self):
        program = read("ask n\nstore q 1\nput q n\nif n\ngive n\nend\nn = n + 1")
        numbers = [3, 4]
        before = copy.deepcopy(program)
        told = run(program, numbers)
        self.assertEqual((program, numbers), (before, [3, 4]))
        again = copy.deepcopy(told)
        told[2].append(5)
        told[3].append(("z", 1))
        told[4][0][1].append(5)
        told[4].append(("z", []))
        self.assertEqual(run(program, numbers), again)
        self.assertEqual(program, before)

    def test_what_was_told_stays(self):
        program = read("ask n\nstore q 1\nput q n\nput q n\ngive n")
        told = run(program, [3])
        kept = copy.deepcopy(told)
        run(program, [4])
        self.assertEqual(told, kept)

    def test_against_another_telling(self):
        starved = stopped = ended = 0
        for seed in range(400):
            program = read(sample(seed))
            numbers = [seed, seed - 200, 10 ** 30 + seed][:seed % 4]
            for most in (0, 1, 5, seed % 60, 700):
                want = expected(program, numbers, most)
                try:
                    told = run(program, numbers, most)
                except Starved as error:
                    self.assertEqual(("starved", error.place), want)
                    starved += 1
                    continue
                self.assertEqual(told, want)
                ended += told[0]
                stopped += not told[0]
        self.assertGreater(min(starved, stopped, ended), 100)


if __name__ == "__main__":
    unittest.main()
