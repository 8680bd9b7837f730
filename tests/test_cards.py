import copy
import unittest

from handflow.cards import cards_of, touched
from handflow.reader import read
from samples import check_asked_of_bodies, sample

GIVE = ("give", "y")
PUT = ("put", "q", "y")
GET = ("get", "q", "y")


class Touched(unittest.TestCase):
    def test_nothing(self):
        self.assertEqual(touched([]), [])
        self.assertEqual(touched([("repeat", 5, [])]), [])

    def test_sets(self):
        self.assertEqual(touched([("set", "x", 1, "+", 2)]), ["x"])
        self.assertEqual(touched([("set", "x", "b", "+", "a")]), ["a", "b", "x"])
        self.assertEqual(touched([("set", "x", "x", "<", "a")]), ["a", "x"])
        self.assertEqual(touched([("set", "x", 1, "=", "a")]), ["a", "x"])

    def test_plain_deeds(self):
        self.assertEqual(touched([PUT]), ["q>", "y"])
        self.assertEqual(touched([GET]), ["q<", "y"])
        self.assertEqual(touched([GIVE]), [">", "y"])

    def test_ifs(self):
        self.assertEqual(touched([("if", "x", [], [])]), ["x"])
        self.assertEqual(touched([("if", "x", [GIVE], [])]), [">", "x", "y"])
        self.assertEqual(touched([("if", "x", [], [GIVE])]), [">", "x", "y"])
        self.assertEqual(touched([("if", "x", [("set", "b", 1, "+", 1)], [("set", "a", 1, "+", 1)])]), ["a", "b", "x"])

    def test_a_while_touches_the_outlet(self):
        self.assertEqual(touched([("while", "x", [])]), [">", "x"])
        self.assertEqual(touched([("while", "x", [("set", "a", "x", "-", 1)])]), [">", "a", "x"])
        self.assertEqual(touched([("if", "y", [], [("while", "x", [])])]), [">", "x", "y"])

    def test_repeats(self):
        for rounds in (0, 1, 99):
            self.assertEqual(touched([("repeat", rounds, [PUT, GET])]), ["q<", "q>", "y"])
            self.assertEqual(touched([("repeat", rounds, [("set", "a", "b", "+", 1)])]), ["a", "b"])

    def test_any_depth(self):
        block = [PUT, ("set", "a", "b", "+", 1)]
        for k in range(20):
            block = [("repeat", k, block), ("if", "c", [], [("repeat", 0, [GIVE])])]
        self.assertEqual(touched(block), [">", "a", "b", "c", "q>", "y"])

    def test_sorted_as_texts_are(self):
        block = [("put", "q", "q"), ("get", "q", "qa"), ("put", "qa", "b"), ("give", "z"), ("get", "a", "q"), PUT, PUT]
        self.assertEqual(touched(block), [">", "a<", "b", "q", "q<", "q>", "qa", "qa>", "y", "z"])

    def test_a_store_called_like_a_variable(self):
        self.assertEqual(touched([("put", "x", "x")]), ["x", "x>"])
        self.assertEqual(touched([("get", "x", "x")]), ["x", "x<"])
        self.assertEqual(touched([("put", "x", "y")]), ["x>", "y"])

    def test_nothing_is_changed(self):
        check_asked_of_bodies(self, touched)

    def test_against_the_rows_of_the_text(self):
        for seed in range(200):
            rows = [row.split() for row in sample(seed).split("\n")]
            found = set()
            for words in rows:
                if not words or words[0] in ("ask", "store", "repeat", "else", "end"):
                    continue
                if words[0] in ("put", "get"):
                    found |= {words[1] + {"put": ">", "get": "<"}[words[0]], words[2]}
                elif words[0] in ("give", "while"):
                    found |= {">", words[1]}
                elif words[0] == "if":
                    found.add(words[1])
                else:
                    found |= {word for word in words if word.isalpha()}
            self.assertEqual(touched(read(sample(seed))[2]), sorted(found))


class Cards(unittest.TestCase):
    def test_the_empty_program(self):
        self.assertEqual(cards_of(([], [], [])), [">"])

    def test_asks_alone(self):
        self.assertEqual(cards_of((["b", "a"], [], [])), [">", "a", "b"])

    def test_stores_alone(self):
        self.assertEqual(cards_of(([], [("r", 1), ("q", 2)], [])), [">", "q<", "q>", "r<", "r>"])

    def test_the_whole(self):
        text = "ask n\nask x\nstore q 1\nstore n 2\nput q x\nif c\nd = n\nend\nget q x"
        self.assertEqual(cards_of(read(text)), [">", "c", "d", "n", "n<", "n>", "q<", "q>", "x"])

    def test_each_once(self):
        self.assertEqual(cards_of((["y"], [("q", 1)], [PUT, GET, GIVE, GIVE])), [">", "q<", "q>", "y"])

    def test_nothing_is_changed(self):
        program = read("ask n\nstore q 1\nput q n\ngive x")
        before = copy.deepcopy(program)
        told = cards_of(program)
        told.append("changed")
        self.assertEqual(program, before)
        self.assertEqual(cards_of(program), told[:-1])


if __name__ == "__main__":
    unittest.main()
