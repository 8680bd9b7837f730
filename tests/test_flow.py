import copy
import unittest

from handflow.deeds import deeds_of
from handflow.errors import BadNest, BadRow, FlowError, Hidden, NoStore, Starved, TooMuch, Twice
from handflow.flow import flow, lengthened, look
from handflow.looker import looked
from handflow.mender import mended
from handflow.netmaker import net_of
from handflow.plain import run
from handflow.player import play
from handflow.reader import read
from handflow.showing import shown
from plays import PACES
from samples import fed_texts, sample

WHEEL = 10 ** 30
# Not let by: the gets wait behind the gate of the puts.
SHORT = "ask n\nstore q 1\nrepeat 3\nput q n\nn = n + 1\ngive n\nend\nrepeat 3\nget q n\nend\ngive n"


def text_of(*rows):
    return "\n".join(rows)


class Refusals(unittest.TestCase):
    def check(self, error, place, *rows):
        text = text_of(*rows)
        for ask in (look, lengthened, lambda text: flow(text, []), lambda text: flow(text, [1, 2], [[3]], 0)):
            with self.assertRaises(FlowError) as caught:
                ask(text)
            self.assertIs(type(caught.exception), error)
            self.assertEqual(caught.exception.place, place)

    def test_what_the_reader_refuses(self):
        self.check(BadRow, 2, "", "ask if")
        self.check(BadRow, 1, "store q 2001")
        self.check(BadNest, 2, "give x", "ask n")
        self.check(BadNest, 3, "if x", "give x", "")
        self.check(Twice, 2, "ask n", "ask n")
        self.check(NoStore, 3, "store r 1", "give x", "put q x")
        self.check(Hidden, 3, "store q 1", "while x", "put q x", "end")

    def test_what_the_deeds_refuse(self):
        self.check(TooMuch, 2000, *["repeat 99"] * 2, "give x", "end", "end")
        self.check(TooMuch, 2000, "store q 1", "get q x", *["repeat 99"] * 12, *["end"] * 12)
        self.check(Starved, 0, "store q 1", "get q x")
        self.check(Starved, 3, "store q 1", "give x", "put q x", "get q x", "get q x")

    def test_what_is_not_refused(self):
        # Nothing within a repeat 0 is done, nor counted.
        text = text_of("store q 1", "repeat 0", "get q x", *["repeat 99"] * 11, "end", *["end"] * 11)
        self.assertEqual(look(text)[0], "by")
        self.assertEqual(flow(text, []), ("ended", [], [("x", 0)]))


class Looks(unittest.TestCase):
    def test_as_looked(self):
        self.assertEqual(look(""), ("by", [0]))
        words = set()
        for text in [SHORT, *fed_texts(60)]:
            program = read(text)
            told = look(text)
            self.assertEqual(told, looked(deeds_of(program), program[1]))
            words.add(told[0])
        self.assertEqual(words, {"by", "ring"})

    def test_the_lengths_of_the_text(self):
        self.assertEqual(look(SHORT)[0], "ring")
        self.assertEqual(look(SHORT.replace("store q 1", "store q 2"))[0], "ring")
        self.assertEqual(look(SHORT.replace("store q 1", "store q 3"))[0], "by")

    def test_the_same_each_time(self):
        for text in (SHORT, "give x"):
            told = look(text)
            kept = copy.deepcopy(told)
            for part in told[1:]:
                part.clear()
            self.assertEqual(look(text), kept)


class Flows(unittest.TestCase):
    def test_the_empty_text(self):
        self.assertEqual(flow("", []), ("ended", [], []))

    def test_kinds(self):
        told = flow("ask n\ngive n", [4])
        self.assertEqual([type(told), *map(type, told), type(told[2][0])], [tuple, str, list, list, tuple])
        self.assertEqual(told, ("ended", [4], [("n", 4)]))

    def test_ended(self):
        text = text_of("ask n", "store q 2", "while n", "give n", "n = n - 1", "end", "repeat 2", "put q k",
                       "k = k + 2", "get q m", "if m", "give m", "else", "give k", "end", "end")
        for pace in PACES:
            self.assertEqual(flow(text, [3], pace), ("ended", [3, 2, 1, 2, 2], [("k", 4), ("m", 2), ("n", 0)]))

    def test_still(self):
        for pace in PACES:
            self.assertEqual(flow(SHORT, [5], pace), ("still", [6, 7], None))
        self.assertEqual(flow("store q 1\ngive x\nput q x\nput q x\ngive y", []), ("still", [0, 0], None))

    def test_cut(self):
        endless = "x = 1\ngive x\nwhile x\nx = x + 1\ngive x\nend\ngive y"
        told = flow(endless, [])
        self.assertEqual((told[0], told[2]), ("cut", None))
        self.assertEqual(told[1], list(range(1, len(told[1]) + 1)))
        self.assertGreater(len(told[1]), 500)
        self.assertEqual(flow(endless, [], None, 0), ("cut", [], None))
        self.assertEqual(flow(SHORT, [5], None, 3)[0], "cut")

    def test_from_the_first_number_that_is_enough(self):
        text = text_of("ask n", "repeat 2", "give n", "n = n + 1", "end", "while z", "end")
        whole = net_of(read(text), [7])
        still, log, _ = play(whole[0], whole[1])
        needed = sum(word == "took" for _, _, word, _ in log)
        self.assertTrue(still)
        for pace in PACES:
            for most in range(needed):
                word, outs, finals = flow(text, [7], pace, most)
                self.assertEqual((word, finals, [7, 8][:len(outs)]), ("cut", None, outs))
            for most in (needed, needed + 1, 5000):
                self.assertEqual(flow(text, [7], pace, most), ("ended", [7, 8], [("n", 9), ("z", 0)]))

    def test_ended_where_the_end_has_taken(self):
        # Also where the number of takings is used up just there.
        seen = set()
        for seed, text in enumerate(fed_texts(40)):
            lines, parts, ends = net_of(read(text), [2, 0, 1])
            pace = PACES[seed % len(PACES)]
            for most in (*range(0, 60, 7), 150, 400):
                still, log, _ = play(lines, parts, pace, most)
                taken = [things for _, part, word, things in log if (part, word) == (len(parts) - 1, "took")]
                word, outs, finals = flow(text, [2, 0, 1], pace, most)
                self.assertEqual(word, "ended" if taken else "still" if still else "cut")
                self.assertEqual(finals is None, not taken)
                outlet = ends[-1][1]
                self.assertEqual(outs, [thing for _, _, word, things in log for line, thing in things
                                        if (line, word) == (outlet, "gave")])
                seen.add(word)
        self.assertEqual(seen, {"ended", "still", "cut"})

    def test_numbers(self):
        text = "ask b\nask a\ngive a\ngive b\ngive c"
        for numbers, outs in (([], [0, 0, 0]), ([5], [0, 5, 0]), ([5, 6], [6, 5, 0]), ([5, 6, 7], [6, 5, 0]),
                              ([-1, WHEEL], [0, WHEEL - 1, 0]), ([3 * WHEEL + 2, -WHEEL - 1], [WHEEL - 1, 2, 0])):
            self.assertEqual(flow(text, numbers), ("ended", outs, [("a", outs[0]), ("b", outs[1]), ("c", 0)]))

    def test_finals_are_of_variables_alone(self):
        text = text_of("ask z", "ask q", "store q 3", "store a 1", "put q q", "put a z", "get q b",
                       "if y", "d = c", "end")
        self.assertEqual(flow(text, [1, 2]), ("ended", [], [
            ("b", 2), ("c", 0), ("d", 0), ("q", 2), ("y", 0), ("z", 1),
        ]))

    def test_most_left_out(self):
        # Three takings a round, two for the last look, one for the end and one for each set ahead.
        text = "\nask n\nx = 1\nx = 1\nwhile n\nn = n - 1\nend"
        self.assertEqual(flow(text, [1665])[0], "ended")
        self.assertEqual(flow(text + "\nx = 1", [1665])[0], "cut")
        self.assertEqual(flow(text + "\nx = 1", [1665], None, 5001)[0], "ended")

    def test_the_same_each_time(self):
        for text in fed_texts(15):
            numbers = [3, -1]
            pace = [[1, 0], [], [4]]
            told = flow(text, numbers, pace, 300)
            kept = copy.deepcopy(told)
            self.assertEqual((numbers, pace), ([3, -1], [[1, 0], [], [4]]))
            told[1].append("changed")
            if told[2] is not None:
                told[2].append("changed")
            self.assertEqual(flow(text, numbers, pace, 300), kept)
            self.assertEqual((numbers, pace), ([3, -1], [[1, 0], [], [4]]))


class Lengthened(unittest.TestCase):
    def test_let_by_already(self):
        self.assertEqual(lengthened(""), "")
        self.assertEqual(lengthened("  store   q 2000\n\nx = 1\nput q  x\n"), "store q 2000\nx = 1 + 0\nput q x")

    def test_not_let_by(self):
        self.assertEqual(lengthened(SHORT), shown(read(SHORT.replace("store q 1", "store q 3"))))
        self.assertEqual(flow(lengthened(SHORT), [5])[:2], ("ended", [6, 7, 8, 7]))
        self.assertEqual(lengthened("store q 1\nstore r 5\nput q x\nput q x\nput r x\n"),
                         "store q 2\nstore r 5\nput q x\nput q x\nput r x")

    def test_samples(self):
        longer = 0
        for text in fed_texts(80):
            program = read(text)
            told = lengthened(text)
            stores = mended(deeds_of(program), program[1])[0]
            self.assertEqual(read(told), (program[0], stores, program[2]))
            self.assertEqual(told, shown(read(told)))
            self.assertEqual(look(told)[0], "by")
            self.assertEqual(lengthened(told), told)
            longer += stores != program[1]
        self.assertGreater(longer, 5)

    def test_it_runs_plainly_as_before(self):
        for seed in range(30):
            text = sample(seed)
            try:
                told = lengthened(text)
            except FlowError:
                continue
            self.assertEqual(run(read(told), [1, 2], 300), run(read(text), [1, 2], 300))


if __name__ == "__main__":
    unittest.main()
