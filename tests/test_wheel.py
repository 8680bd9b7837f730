import random
import unittest

from handflow.wheel import WHEEL, done

EDGES = (0, 1, 2, 3, 5, 10 ** 15, 2 ** 99, 2 ** 99 - 1, WHEEL // 2, WHEEL - 2, WHEEL - 1)


def asked_plainly(sign, a, b):
    """What [11] says of a sign, over all numbers."""
    outcomes = {
        "+": a + b, "-": a - b, "*": a * b, "&": a & b, "|": a | b, "^": a ^ b,
        "/": divmod(a, b)[0] if b else 0, "<": int(a < b), "=": int(a == b),
    }
    return outcomes[sign] % 10 ** 30


class Wheel(unittest.TestCase):
    def test_the_wheel(self):
        self.assertEqual(WHEEL, 10 ** 30)

    def test_sums(self):
        self.assertEqual(done("+", 2, 3), 5)
        self.assertEqual(done("+", WHEEL - 1, 0), WHEEL - 1)
        self.assertEqual(done("+", WHEEL - 1, 1), 0)
        self.assertEqual(done("+", WHEEL - 1, WHEEL - 1), WHEEL - 2)

    def test_differences(self):
        self.assertEqual(done("-", 5, 3), 2)
        self.assertEqual(done("-", 3, 3), 0)
        self.assertEqual(done("-", 0, 1), WHEEL - 1)
        self.assertEqual(done("-", 3, 5), WHEEL - 2)
        self.assertEqual(done("-", 0, WHEEL - 1), 1)

    def test_products(self):
        self.assertEqual(done("*", 6, 7), 42)
        self.assertEqual(done("*", 10 ** 15, 10 ** 15), 0)
        self.assertEqual(done("*", 10 ** 16, 3 * 10 ** 15), 0)
        self.assertEqual(done("*", 10 ** 15 + 1, 10 ** 15), 10 ** 15)
        self.assertEqual(done("*", WHEEL - 1, WHEEL - 1), 1)
        self.assertEqual(done("*", WHEEL - 1, 2), WHEEL - 2)

    def test_quotients(self):
        self.assertEqual(done("/", 7, 2), 3)
        self.assertEqual(done("/", 8, 2), 4)
        self.assertEqual(done("/", 1, 2), 0)
        self.assertEqual(done("/", WHEEL - 1, 1), WHEEL - 1)
        self.assertEqual(done("/", WHEEL - 1, WHEEL - 1), 1)
        self.assertEqual(done("/", WHEEL - 1, 3), (WHEEL - 1) // 3)

    def test_a_divisor_nought(self):
        for a in EDGES:
            self.assertEqual(done("/", a, 0), 0)

    def test_comparisons(self):
        for a, b, less, same in ((1, 2, 1, 0), (2, 1, 0, 0), (2, 2, 0, 1), (0, WHEEL - 1, 1, 0), (WHEEL - 1, 0, 0, 0)):
            self.assertEqual((done("<", a, b), done("=", a, b)), (less, same))

    def test_comparisons_tell_whole_numbers(self):
        for sign in "<=":
            for a, b in ((1, 2), (2, 1), (2, 2)):
                self.assertIs(type(done(sign, a, b)), int)

    def test_bit_by_bit(self):
        self.assertEqual([done(sign, 12, 10) for sign in "&|^"], [8, 14, 6])
        self.assertEqual(done("|", 2 ** 99, 2 ** 99 - 1), 267650600228229401496703205375)
        self.assertEqual(done("^", 2 ** 99, 2 ** 99 - 1), 267650600228229401496703205375)
        self.assertEqual(done("&", 2 ** 99, 2 ** 99 - 1), 0)
        self.assertEqual(done("&", WHEEL - 1, WHEEL - 1), WHEEL - 1)
        self.assertEqual(done("^", WHEEL - 1, WHEEL - 1), 0)

    def test_bit_by_bit_beyond_the_wheel(self):
        for sign, whole in (("|", lambda a, b: a | b), ("^", lambda a, b: a ^ b)):
            beyond = [(a, b) for a in EDGES for b in EDGES if whole(a, b) >= WHEEL]
            self.assertTrue(beyond)
            for a, b in beyond:
                self.assertEqual(done(sign, a, b), whole(a, b) - WHEEL)

    def test_every_sign_at_the_edges(self):
        for sign in "+-*/<=&|^":
            for a in EDGES:
                for b in EDGES:
                    self.assertEqual(done(sign, a, b), asked_plainly(sign, a, b), (sign, a, b))

    def test_every_sign_with_numbers_between(self):
        chance = random.Random(11)
        for _ in range(2000):
            a = chance.randrange(10 ** chance.randint(1, 30))
            b = chance.randrange(10 ** chance.randint(1, 30))
            sign = chance.choice("+-*/<=&|^")
            self.assertEqual(done(sign, a, b), asked_plainly(sign, a, b), (sign, a, b))


if __name__ == "__main__":
    unittest.main()
