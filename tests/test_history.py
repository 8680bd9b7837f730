import copy
import unittest

from handflow.history import history
from handflow.netmaker import net_of
from handflow.player import play
from handflow.reader import read

LINES = [(3, (5, 6)), (1, ()), (None, (0,)), (1, (9,))]
LOG = [
    (0, 0, "took", [(0, 5), (3, 9)]), (1, 0, "gave", [(2, 5), (0, 7)]), (1, 1, "took", [(0, 6)]),
    (2, 1, "gave", [(2, 8)]), (2, 2, "gave", []), (9, 0, "gave", [(0, 1), (2, 0)]),
]


class Histories(unittest.TestCase):
    def test_lines(self):
        self.assertEqual(history(LINES, LOG, 0), [5, 6, 7, 1])
        self.assertEqual(history(LINES, LOG, 1), [])
        self.assertEqual(history(LINES, LOG, 2), [0, 5, 8, 0])
        self.assertEqual(history(LINES, LOG, 3), [9])

    def test_no_log(self):
        self.assertEqual([history(LINES, [], line) for line in range(4)], [[5, 6], [], [0], [9]])

    def test_what_is_told_is_the_askers_own(self):
        kept = copy.deepcopy((LINES, LOG))
        for line in range(4):
            told = history(LINES, LOG, line)
            self.assertIs(type(told), list)
            told.append("changed")
            self.assertEqual((LINES, LOG), kept)
            self.assertEqual(history(LINES, LOG, line), told[:-1])

    def test_several_givers(self):
        lines, parts, ends = net_of(read("store q 9\ngive x\nput q y\nx = 4\ngive x\ngive x\nput q x"), [])
        _, log, left = play(lines, parts)
        self.assertEqual([history(lines, log, line) for _, line in ends], [[0, 4], [0, 4, 4]])
        self.assertEqual([left[line] for _, line in ends], [[0, 4], [0, 4, 4]])

    def test_also_what_was_taken(self):
        lines, parts, ends = net_of(read("store q 1\nrepeat 3\nput q x\nx = x + 2\nget q y\nend"), [])
        _, log, left = play(lines, parts)
        self.assertEqual(history(lines, log, ends[0][1]), [0, 2, 4])
        self.assertEqual(left[ends[0][1]], [])


if __name__ == "__main__":
    unittest.main()
