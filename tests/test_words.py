import unittest

from handflow.words import is_name, number_in

KEYWORDS = "ask store put get give if else while repeat end".split()
PRINTED = [chr(code) for code in range(32, 127)]


class Names(unittest.TestCase):
    def test_lengths(self):
        for length in range(1, 9):
            self.assertIs(is_name("q" * length), True, length)
        for length in (0, 9, 10, 200):
            self.assertIs(is_name("q" * length), False, length)

    def test_each_single_sign(self):
        for sign in PRINTED:
            self.assertIs(is_name(sign), "a" <= sign <= "z", sign)

    def test_each_sign_ahead_within_and_behind(self):
        for sign in PRINTED:
            small = "a" <= sign <= "z"
            for word in (sign + "bcd", "bc" + sign + "d", "bcd" + sign):
                self.assertIs(is_name(word), small, word)

    def test_keywords(self):
        for word in KEYWORDS:
            self.assertIs(is_name(word), False, word)

    def test_near_keywords(self):
        for word in KEYWORDS:
            self.assertIs(is_name(word + "x"), True, word)
            self.assertIs(is_name("x" + word), True, word)
            self.assertIs(is_name(word.upper()), False, word)
        for word in ("i", "el", "els", "set", "merge", "whil", "ends"):
            self.assertIs(is_name(word), True, word)

    def test_letters_of_other_alphabets(self):
        for word in ("\u00e4", "na\u00efve", "\u0430", "\u00df", "\u00aa"):
            self.assertIs(is_name(word), False, word)

    def test_blanks_and_line_ends(self):
        for word in (" ", " a", "a ", "a b", "a\n", "\na", "a\tb", "\t"):
            self.assertIs(is_name(word), False, repr(word))


class Numbers(unittest.TestCase):
    def check_number(self, word, number):
        found = number_in(word)
        self.assertEqual(found, number)
        self.assertIs(type(found), int)

    def check_none(self, word):
        self.assertIsNone(number_in(word), repr(word))

    def test_nought(self):
        self.check_number("0", 0)

    def test_noughts_ahead(self):
        for word in ("00", "007", "01", "000", "0" * 30, "0" + "1" * 29):
            self.check_none(word)

    def test_one_figure(self):
        for number in range(10):
            self.check_number(str(number), number)

    def test_noughts_within_and_behind(self):
        for number in (10, 100, 101, 2000, 10 ** 29):
            self.check_number(str(number), number)

    def test_lengths(self):
        self.check_number("9" * 29, 10 ** 29 - 1)
        self.check_number("9" * 30, 10 ** 30 - 1)
        self.check_number("1" + "0" * 29, 10 ** 29)
        for word in ("", "9" * 31, "1" + "0" * 30, "1" * 200, "1" * 5000):
            self.check_none(word)

    def test_each_single_sign(self):
        for sign in PRINTED:
            if not "0" <= sign <= "9":
                self.check_none(sign)

    def test_each_sign_ahead_within_and_behind(self):
        for sign in PRINTED:
            if not "0" <= sign <= "9":
                for word in (sign + "12", "1" + sign + "2", "12" + sign):
                    self.check_none(word)

    def test_signs_and_blanks(self):
        for word in ("+1", "-1", "-0", "+0", " 1", "1 ", "1 2", "1_0", "1.0", "1.", ".5",
                     "1e3", "0x1", "1\n", "\n1", "\t1", "0b1"):
            self.check_none(word)

    def test_figures_of_other_alphabets(self):
        for word in ("\u00b2", "\u0661", "\uff11", "1\u0662"):
            self.check_none(word)


if __name__ == "__main__":
    unittest.main()
