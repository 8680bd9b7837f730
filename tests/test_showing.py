import copy
import unittest

from handflow.reader import read
from handflow.showing import shown
from samples import sample


def body_shown(*deeds):
    return shown(([], [], list(deeds)))


class Shown(unittest.TestCase):
    def test_the_empty_program(self):
        self.assertEqual(shown(([], [], [])), "")

    def test_asks_and_stores_alone(self):
        self.assertEqual(shown((["b", "a"], [], [])), "ask b\nask a")
        self.assertEqual(shown(([], [("r", 2000), ("q", 1)], [])), "store r 2000\nstore q 1")
        self.assertEqual(shown((["b"], [("r", 3)], [])), "ask b\nstore r 3")

    def test_each_plain_deed(self):
        self.assertEqual(body_shown(("put", "q", "x")), "put q x")
        self.assertEqual(body_shown(("get", "q", "x")), "get q x")
        self.assertEqual(body_shown(("give", "x")), "give x")

    def test_sets(self):
        for sign in "+-*/<=&|^":
            self.assertEqual(body_shown(("set", "x", "a", sign, 12)), f"x = a {sign} 12")
        self.assertEqual(body_shown(("set", "x", 10 ** 30 - 1, "-", "b")), "x = " + "9" * 30 + " - b")
        self.assertEqual(body_shown(("set", "x", 0, "+", 0)), "x = 0 + 0")

    def test_a_set_of_a_value_alone(self):
        self.assertEqual(shown(read("x = a")), "x = a + 0")
        self.assertEqual(shown(read("x = 7")), "x = 7 + 0")

    def test_blocks(self):
        self.assertEqual(body_shown(("while", "x", [("give", "y")])), "while x\ngive y\nend")
        self.assertEqual(body_shown(("while", "x", [])), "while x\nend")
        self.assertEqual(body_shown(("repeat", 0, [("give", "y")])), "repeat 0\ngive y\nend")
        self.assertEqual(body_shown(("repeat", 99, [])), "repeat 99\nend")

    def test_ifs(self):
        give = ("give", "y")
        self.assertEqual(body_shown(("if", "x", [], [])), "if x\nend")
        self.assertEqual(body_shown(("if", "x", [give], [])), "if x\ngive y\nend")
        self.assertEqual(body_shown(("if", "x", [], [give])), "if x\nelse\ngive y\nend")
        self.assertEqual(body_shown(("if", "x", [give], [give, give])), "if x\ngive y\nelse\ngive y\ngive y\nend")
        self.assertEqual(shown(read("if x\nelse\nend")), "if x\nend")

    def test_blocks_within_one_another(self):
        body = [("repeat", 2, [("if", "a", [("while", "b", [("give", "b")])], [("if", "c", [], [])]), ("give", "a")])]
        rows = ["repeat 2", "if a", "while b", "give b", "end", "else", "if c", "end", "end", "give a", "end"]
        self.assertEqual(shown(([], [], body)), "\n".join(rows))

    def test_the_whole(self):
        rows = (" store  q 2", "", "ask n", "repeat 2 ", "  put q n", "  n = n", "end", "get q x", "give x", "")
        told = "ask n\nstore q 2\nrepeat 2\nput q n\nn = n + 0\nend\nget q x\ngive x"
        self.assertEqual(shown(read("\n".join(rows))), told)

    def test_read_to_the_same_program(self):
        for seed in range(300):
            program = read(sample(seed))
            text = shown(program)
            self.assertEqual(read(text), program)
            self.assertEqual(shown(read(text)), text)
            for row in text.split("\n"):
                self.assertEqual(row, " ".join(row.split()))

    def test_twelve_blocks(self):
        rows = ["while a", "repeat 7", "if b"] * 4
        text = "\n".join(rows + ["a = b - 1"] + ["end"] * 12)
        self.assertEqual(shown(read(text)), text)

    def test_nothing_is_changed(self):
        program = read("ask n\nstore q 2\nput q n\nif n\nelse\ngive n\nend")
        before = copy.deepcopy(program)
        self.assertEqual(shown(program), shown(program))
        self.assertEqual(program, before)


if __name__ == "__main__":
    unittest.main()
