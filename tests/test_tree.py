import unittest

from handflow.reader import read
from handflow.tree import named
from samples import check_asked_of_bodies, sample


def names_of(*rows):
    return named(read("\n".join(rows))[2])


class Named(unittest.TestCase):
    def test_an_empty_list(self):
        self.assertEqual(named([]), [])

    def test_sets(self):
        self.assertEqual(named([("set", "x", 1, "+", 2)]), ["x"])
        self.assertEqual(named([("set", "x", "a", "+", 2)]), ["a", "x"])
        self.assertEqual(named([("set", "x", 1, "-", "b")]), ["b", "x"])
        self.assertEqual(named([("set", "x", "b", "*", "a")]), ["a", "b", "x"])
        self.assertEqual(named([("set", "x", "x", "<", "x")]), ["x"])

    def test_a_sign_is_no_name(self):
        for sign in "+-*/<=&|^":
            self.assertEqual(named([("set", "x", 1, sign, 2)]), ["x"])

    def test_puts_gets_and_gives(self):
        self.assertEqual(named([("put", "q", "x")]), ["x"])
        self.assertEqual(named([("get", "q", "x")]), ["x"])
        self.assertEqual(named([("give", "x")]), ["x"])

    def test_a_store_called_like_a_variable(self):
        self.assertEqual(named([("put", "q", "q")]), ["q"])
        self.assertEqual(named([("put", "q", "x"), ("get", "x", "y")]), ["x", "y"])

    def test_what_is_looked_at(self):
        self.assertEqual(named([("if", "x", [], [])]), ["x"])
        self.assertEqual(named([("while", "x", [])]), ["x"])
        self.assertEqual(named([("repeat", 3, [])]), [])

    def test_what_stands_within(self):
        self.assertEqual(named([("if", "c", [("give", "b")], [("give", "a")])]), ["a", "b", "c"])
        self.assertEqual(named([("if", "c", [], [("give", "a")])]), ["a", "c"])
        self.assertEqual(named([("while", "c", [("give", "b")])]), ["b", "c"])
        self.assertEqual(named([("repeat", 0, [("give", "b")])]), ["b"])

    def test_any_depth(self):
        block = [("set", "z", "y", "+", 1)]
        for k in range(20):
            block = [("if", "a", [], block), ("repeat", 2, [("while", "b", block)])] if k < 4 else [
                ("repeat", 0, block), ("get", "q", "d")]
        self.assertEqual(named(block), ["a", "b", "d", "y", "z"])

    def test_each_once_and_sorted(self):
        rows = ("give b", "give ab", "give b", "give aa", "give z", "b = ab + z")
        self.assertEqual(names_of(*rows), ["aa", "ab", "b", "z"])

    def test_asks_are_not_of_the_list(self):
        self.assertEqual(names_of("ask a", "give b"), ["b"])

    def test_nothing_is_changed(self):
        check_asked_of_bodies(self, named)

    def test_against_the_words_of_the_text(self):
        for seed in range(200):
            text = sample(seed)
            found = set()
            for row in text.split("\n"):
                words = row.split()
                if not words or words[0] in ("ask", "store", "repeat"):
                    continue
                words = words[2:] if words[0] in ("put", "get") else words
                found.update(word for word in words if word.isalpha())
            found -= {"give", "if", "else", "while", "end"}
            self.assertEqual(named(read(text)[2]), sorted(found), text)


if __name__ == "__main__":
    unittest.main()
