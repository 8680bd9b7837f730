import unittest

from handflow.errors import BadRow, FlowError
from handflow.rows import row_of

KEYWORDS = "ask store put get give if else while repeat end".split()
SIGNS = "+ - * / < = & | ^".split()
FORMS = {
    "ask x": ("ask", "x"),
    "ask q": ("ask", "q"),
    "store q 1": ("store", "q", 1),
    "store q 1999": ("store", "q", 1999),
    "store q 2000": ("store", "q", 2000),
    "x = a": ("set", "x", "a", "+", 0),
    "x = x": ("set", "x", "x", "+", 0),
    "x = 0": ("set", "x", 0, "+", 0),
    "x = 7": ("set", "x", 7, "+", 0),
    "x = a + 0": ("set", "x", "a", "+", 0),
    "x = 0 + a": ("set", "x", 0, "+", "a"),
    "x = a - b": ("set", "x", "a", "-", "b"),
    "x = 3 * 4": ("set", "x", 3, "*", 4),
    "x = x = x": ("set", "x", "x", "=", "x"),
    "put q x": ("put", "q", "x"),
    "put q q": ("put", "q", "q"),
    "get q x": ("get", "q", "x"),
    "give x": ("give", "x"),
    "if x": ("if", "x"),
    "else": ("else",),
    "while x": ("while", "x"),
    "repeat 0": ("repeat", 0),
    "repeat 1": ("repeat", 1),
    "repeat 98": ("repeat", 98),
    "repeat 99": ("repeat", 99),
    "end": ("end",),
    "abcdefgh = stuvwxyz < " + "9" * 30: ("set", "abcdefgh", "stuvwxyz", "<", 10 ** 30 - 1),
}


class RowCase(unittest.TestCase):
    def check_bad(self, row):
        for place in (1, 17):
            with self.assertRaises(BadRow, msg=repr(row)) as caught:
                row_of(row, place)
            self.assertEqual(caught.exception.place, place)

    def check_all_bad(self, rows):
        for row in rows:
            self.check_bad(row)


class Forms(RowCase):
    def test_each_form(self):
        for row, form in FORMS.items():
            self.assertEqual(row_of(row, 1), form)
            self.assertIs(type(row_of(row, 1)), tuple)

    def test_several_blanks(self):
        for row, form in FORMS.items():
            wide = row.replace(" ", "    ")
            for spaced in (wide, " " + row, row + " ", "   " + wide + "  "):
                self.assertEqual(row_of(spaced, 3), form, repr(spaced))

    def test_rows_without_a_word(self):
        for row in ("", " ", "  ", " " * 200):
            self.assertIsNone(row_of(row, 1))

    def test_each_sign(self):
        for sign in SIGNS:
            for left, a in (("a", "a"), ("12", 12), ("0", 0)):
                for right, b in (("b", "b"), ("34", 34), ("0", 0)):
                    self.assertEqual(row_of(f"x = {left} {sign} {right}", 1), ("set", "x", a, sign, b))

    def test_numbers_are_whole_numbers(self):
        for row in ("x = 1", "x = 0 + 1", "store q 1", "repeat 1", "repeat 0"):
            for thing in row_of(row, 1):
                self.assertIn(type(thing), (int, str))

    def test_told_twice_the_same(self):
        for row in FORMS:
            self.assertEqual(row_of(row, 1), row_of(row, 2))

    def test_the_refusal_is_under_the_base(self):
        with self.assertRaises(FlowError):
            row_of("no form", 1)


class Bounds(RowCase):
    def test_store(self):
        self.check_all_bad(["store q 0", "store q 2001", "store q 20000", "store q " + "9" * 30])
        self.check_all_bad(["store q 01", "store q -1", "store q +1", "store q n", "store q 1.0", "store q 1_0"])

    def test_repeat(self):
        self.check_all_bad(["repeat 100", "repeat 101", "repeat 990", "repeat " + "9" * 30])
        self.check_all_bad(["repeat 00", "repeat 07", "repeat -1", "repeat n", "repeat 1_0"])

    def test_long_names_and_numbers(self):
        self.check_all_bad(["ask abcdefghi", "x = " + "1" * 31, "abcdefghi = 1", "x = 007", "x = 1 + 00"])


class Wrong(RowCase):
    def test_a_word_too_few(self):
        for row in FORMS:
            words = row.split()
            if words[0] in KEYWORDS and len(words) > 1:
                self.check_bad(" ".join(words[:-1]))
        self.check_all_bad(["x", "x =", "x = a +", "= a", "= a + b", "a + b", "x a + b"])
        self.check_all_bad(["ask", "store", "store q", "put", "put q", "get", "get q", "give"])
        self.check_all_bad(["if", "while", "repeat"])

    def test_a_word_too_many(self):
        for row in FORMS:
            if row.split()[0] in KEYWORDS:
                for word in ("x", "1", "=", "end", "+"):
                    self.check_bad(row + " " + word)
        for word in ("x", "1", "+", "="):
            self.check_bad("x = a + b " + word)
        self.check_all_bad(["x = a b", "x = a + b + c", "x y = a", "x = = a", "x = a + + b"])

    def test_a_wrong_word_for_a_name(self):
        for word in KEYWORDS + ["1", "0", "X", "x1", "=", "+", "abcdefghi", "x.", "%", "~"]:
            self.check_all_bad([f"ask {word}", f"store {word} 1", f"{word} = a", f"{word} = a + b"])
            self.check_all_bad([f"put {word} x", f"put q {word}", f"get {word} x", f"get q {word}"])
            self.check_all_bad([f"give {word}", f"if {word}", f"while {word}"])

    def test_a_wrong_word_for_a_value(self):
        for word in KEYWORDS + ["X", "x1", "-1", "+", "=", "00", "1x", "abcdefghi"]:
            self.check_all_bad([f"x = {word}", f"x = {word} + b", f"x = a + {word}"])

    def test_a_wrong_word_for_a_sign(self):
        for word in ("%", "==", "**", "//", "<=", ">", "!", "~", "x", "1", "+-", "and", "<<", "-+", "put"):
            self.check_bad(f"x = a {word} b")

    def test_a_wrong_word_for_the_second_of_a_set(self):
        for word in ("==", "+", "-", ":=", "x", "1", "<"):
            self.check_all_bad([f"x {word} a", f"x {word} a + b"])

    def test_words_not_parted(self):
        self.check_all_bad(["x=a", "x =a", "x= a", "x = a+b", "x = a +b", "storeq 1", "repeat9"])

    def test_words_of_no_form(self):
        self.check_all_bad(["no", "no form", "set x a + 0", "ENDS", "Else", "ASK x", "endif", "#", "1", "1 = x"])

    def test_only_the_blank_parts_words(self):
        self.check_all_bad(["give\tx", "\tgive x", "\t", "give x\t", "give\u00a0x", "ask x\r"])


if __name__ == "__main__":
    unittest.main()
