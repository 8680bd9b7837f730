"""What holds over the whole, whatever the pace: [33], [34], [35]."""

import unittest

from handflow.deeds import deeds_of
from handflow.flow import flow, look
from handflow.history import history
from handflow.netmaker import net_of
from handflow.plain import run
from handflow.player import play
from handflow.reader import read
from plays import PACES, check_played, is_beginning, net_sample, pace_sample, single_lines
from samples import fed_texts

NUMBERS = ([], [1, 0, 2], [0, 3, 0, 1, 5, 1])
# No taking of the nets below goes further in the plain run than so many steps.
FAR = 3000


def repeats_in(text):
    return sum(row.split()[:1] == ["repeat"] for row in text.split("\n"))


def enough_for(text, steps):
    return 3 * steps + repeats_in(text) + 1


def paces_for(seed):
    return (None, PACES[seed % len(PACES)], pace_sample(seed), pace_sample(seed, 40))


class Whole(unittest.TestCase):
    def each_run(self, count):
        """Texts with numbers, the plain run's answer, and some paces."""
        for seed, text in enumerate(fed_texts(count)):
            for numbers in NUMBERS:
                yield text, numbers, run(read(text), numbers, FAR), paces_for(seed)

    def check_outputs(self, text, numbers, pace, most, plain):
        word, outs, finals = flow(text, numbers, pace, most)
        self.assertTrue(is_beginning(outs, plain[2]), (text, numbers, pace, most))
        self.assertEqual(finals is None, word != "ended")
        if word == "ended":
            self.assertEqual((plain[0], outs, finals), (True, plain[2], plain[3]))
        return word

    def test_outputs_are_the_beginning_of_the_plain_runs(self):
        words = {}
        for text, numbers, plain, paces in self.each_run(60):
            stuck = look(text)[0]
            for pace in paces:
                for most in (5, 37, 400):
                    word = self.check_outputs(text, numbers, pace, most, plain)
                    self.assertFalse((stuck, word) in (("by", "still"), ("ring", "ended")))
                    words[stuck, plain[0], word] = words.get((stuck, plain[0], word), 0) + 1
        # Also where the plain run never ends, and where the stores aren't let by.
        for seen in (("by", True, "ended"), ("by", True, "cut"), ("by", False, "cut"),
                     ("ring", True, "still"), ("ring", True, "cut"), ("ring", False, "cut")):
            self.assertGreater(words.get(seen, 0), 10, words)

    def test_ended_within_the_promised_takings(self):
        seen = 0
        for text, numbers, plain, paces in self.each_run(150):
            if plain[0] and look(text)[0] == "by":
                for pace in paces:
                    told = flow(text, numbers, pace, enough_for(text, plain[1]))
                    self.assertEqual(told, ("ended", plain[2], plain[3]), (text, numbers, pace))
                    seen += 1
        self.assertGreater(seen, 300)

    def test_each_kind_of_deed_within_the_promised_takings(self):
        # No more than promised, where nearly all of it is needed.
        for rows in (["x = y + z"] * 30, ["repeat 99", "end"], ["repeat 99", "x = y + z", "end"],
                     ["repeat 9", "repeat 9", "repeat 2", "give x", "end", "end", "end"],
                     ["repeat 0", "give x", "end"] * 9, ["x = 9", "while x", "x = x - 1", "end"],
                     ["store q 9", "repeat 30", "put q x", "x = x + y", "get q y", "end"],
                     ["if x", "else", "if y", "end", "end"] * 9, [""]):
            text = "\n".join(rows)
            plain = run(read(text), [])
            self.assertTrue(plain[0])
            for pace in PACES:
                self.assertEqual(flow(text, [], pace, enough_for(text, plain[1])), ("ended", plain[2], plain[3]))

    def test_a_give_behind_an_endless_loop(self):
        for rows in (["x = 1", "while x", "end", "give y"],
                     ["x = 1", "give x", "if x", "while x", "end", "end", "give y"],
                     ["repeat 2", "give x", "x = x + 1", "while x", "y = y + 1", "end", "end"]):
            text = "\n".join(rows)
            for pace in PACES:
                self.assertEqual(flow(text, [], pace, 900), ("cut", run(read(text), [], 900)[2], None))

    def test_not_let_by(self):
        seen = 0
        for text, numbers, plain, paces in self.each_run(150):
            told = look(text)
            if plain[0] and told[0] == "ring":
                for pace in paces:
                    for more in (0, 500):
                        self.check_still(text, numbers, pace, enough_for(text, plain[1]) + more, told[1], plain)
                        seen += 1
        self.assertGreater(seen, 200)

    def check_still(self, text, numbers, pace, most, done, plain):
        self.assertEqual(self.check_outputs(text, numbers, pace, most, plain), "still")
        program = read(text)
        deeds = deeds_of(program)
        lines, parts, ends = net_of(program, numbers)
        still, log, left = play(lines, parts, pace, most)
        self.assertTrue(still)
        for store, line in ends[:-1]:
            puts = sum(deeds[deed][3] == store for deed in done)
            gets = sum(deeds[deed][4] == store for deed in done)
            given = len(history(lines, log, line))
            self.assertEqual((given, given - len(left[line])), (puts, gets), (text, store))


class Lines(unittest.TestCase):
    def check_two(self, one, other):
        for first, second in zip(one[1], other[1], strict=True):
            self.assertTrue(is_beginning(first, second) or is_beginning(second, first))
            self.assertTrue(not one[0] or is_beginning(second, first))
            self.assertTrue(not other[0] or is_beginning(first, second))
        if one[0] and other[0]:
            self.assertEqual(one[2], other[2])

    def check_plays(self, lines, parts, paces):
        """Tells of each play whether it stands still."""
        plays = []
        for k, pace in enumerate(paces):
            for most in (13 + k, 120, 400):
                told = play(lines, parts, pace, most)
                check_played(self, lines, parts, pace, most, told)
                histories = [history(lines, told[1], line) for line in single_lines(lines, parts)]
                plays.append((told[0], histories, told[2]))
        for k, one in enumerate(plays):
            for other in plays[:k]:
                self.check_two(one, other)
        return [told[0] for told in plays]

    def test_any_nets(self):
        words = []
        for seed in range(150):
            words += self.check_plays(*net_sample(seed), paces_for(seed))
        self.assertGreater(min(words.count(True), words.count(False)), 100)

    def test_nets_of_programs(self):
        words = []
        for seed, text in enumerate(fed_texts(40)):
            lines, parts, _ = net_of(read(text), [1, 0, 2])
            words += self.check_plays(lines, parts, paces_for(seed))
        self.assertGreater(min(words.count(True), words.count(False)), 30)


if __name__ == "__main__":
    unittest.main()
