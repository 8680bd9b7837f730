import copy
import unittest

from handflow.parts import Choose, Merge, Part, Pass, Work, Yard, part_of

WHEEL = 10 ** 30
PASS = ("pass", (4, 2), (7, 8, 9), (1, 0, 1))
WORK = ("work", (3, 5), 6, "-", ("in", 1), ("in", 0))
CHOOSE = ("choose", (1, 2, 3), 1, (4, 5, 6), (7, 8, 9), 10)
MERGE = ("merge", 0, (1, 2), (3, 4), (5, 6))


class Yards(unittest.TestCase):
    def test_the_beginning(self):
        yard = Yard([(1, ()), (2, (5,)), (None, (1, 2, 3)), (2, (0, 7))])
        self.assertEqual([yard.holds(line) for line in range(4)], [0, 1, 3, 2])
        self.assertEqual([yard.room(line) for line in range(4)], [True, True, True, False])
        self.assertEqual([yard.first(line) for line in range(4)], [None, 5, 1, 0])
        self.assertEqual(yard.stands(), [[], [5], [1, 2, 3], [0, 7]])

    def test_kinds(self):
        yard = Yard([(1, (0,)), (None, ())])
        self.assertIs(yard.room(0), False)
        self.assertIs(yard.room(1), True)
        self.assertIs(type(yard.holds(0)), int)
        self.assertEqual([type(told) for told in (yard.stands(), *yard.stands())], [list] * 3)

    def test_no_lines(self):
        self.assertEqual(Yard([]).stands(), [])

    def test_hand_and_taken(self):
        yard = Yard([(2, ()), (2, (9,))])
        self.assertIsNone(yard.hand(0, 4))
        self.assertEqual((yard.holds(0), yard.room(0), yard.first(0)), (1, True, 4))
        yard.hand(0, 5)
        self.assertEqual((yard.holds(0), yard.room(0), yard.first(0)), (2, False, 4))
        self.assertEqual(yard.taken(0), 4)
        self.assertEqual((yard.holds(0), yard.room(0), yard.first(0)), (1, True, 5))
        yard.hand(0, 6)
        self.assertEqual(yard.stands(), [[5, 6], [9]])
        self.assertEqual([yard.taken(0), yard.taken(0), yard.taken(1)], [5, 6, 9])
        self.assertEqual((yard.holds(0), yard.room(0), yard.first(0)), (0, True, None))
        self.assertEqual(yard.stands(), [[], []])

    def test_without_a_bound(self):
        yard = Yard([(None, ())])
        for thing in range(3000):
            self.assertTrue(yard.room(0))
            yard.hand(0, thing)
        self.assertTrue(yard.room(0))
        self.assertEqual(yard.holds(0), 3000)
        self.assertEqual([yard.taken(0) for _ in range(3000)], list(range(3000)))
        self.assertTrue(yard.room(0))

    def test_the_longest(self):
        yard = Yard([(2000, tuple(range(1999)))])
        self.assertTrue(yard.room(0))
        yard.hand(0, 7)
        self.assertFalse(yard.room(0))
        self.assertEqual(yard.taken(0), 0)
        self.assertTrue(yard.room(0))

    def test_nought_is_a_thing(self):
        yard = Yard([(1, (0,))])
        self.assertEqual((yard.first(0), yard.holds(0), yard.taken(0)), (0, 1, 0))

    def test_lines_changed_later(self):
        lines = [(1, ()), (2, (5,))]
        before = list(lines)
        yard = Yard(lines)
        lines[0] = (9, (1, 2))
        lines.pop()
        self.assertEqual([yard.room(0), yard.holds(0), yard.first(1)], [True, 0, 5])
        self.assertEqual(yard.stands(), [[], [5]])
        yard.hand(0, 1)
        self.assertFalse(yard.room(0))
        lines = list(before)
        yard = Yard(lines)
        yard.hand(1, 6)
        yard.taken(1)
        self.assertEqual(lines, before)

    def test_what_stands_told_stays(self):
        yard = Yard([(3, (1, 2)), (1, ())])
        told = yard.stands()
        yard.hand(0, 3)
        yard.taken(0)
        yard.hand(1, 4)
        self.assertEqual(told, [[1, 2], []])
        told[0].clear()
        told.clear()
        self.assertEqual(yard.stands(), [[2, 3], [4]])
        self.assertEqual([yard.holds(0), yard.first(0)], [2, 2])

    def test_two_yards(self):
        lines = [(None, (1,))]
        one = Yard(lines)
        other = Yard(lines)
        one.hand(0, 2)
        self.assertEqual((one.stands(), other.stands()), ([[1, 2]], [[1]]))


class Classes(unittest.TestCase):
    def test_which_stands_under_which(self):
        four = {Pass: PASS, Work: WORK, Choose: CHOOSE, Merge: MERGE}
        for own, row in four.items():
            self.assertIs(type(part_of(row)), own)
            self.assertTrue(issubclass(own, Part))
            self.assertFalse(issubclass(Part, own))
            for other in four:
                self.assertEqual(isinstance(part_of(row), other), own is other)


class Wants(unittest.TestCase):
    def check(self, row, lines, wanted):
        yard = Yard(lines)
        part = part_of(row)
        for _ in range(2):
            told = part.wants(yard)
            self.assertEqual(told, wanted)
            self.assertIs(type(told), tuple)
        self.assertEqual(yard.stands(), [list(first) for _, first in lines])

    def test_all_ins_in_order(self):
        for first in ((), (0,), (3,)):
            lines = [(1, first)] * 11
            self.check(PASS, lines, (4, 2))
            self.check(WORK, lines, (3, 5))
            self.check(CHOOSE, lines, (1, 2, 3))

    def test_a_merge(self):
        for told, wanted in (((), (0,)), ((0,), (0, 3, 4)), ((1,), (0, 1, 2)), ((WHEEL - 1,), (0, 1, 2)),
                             ((0, 1), (0, 3, 4)), ((7, 0), (0, 1, 2))):
            for first in ((), (0,), (3,)):
                self.check(MERGE, [(2, told)] + [(1, first)] * 6, wanted)

    def test_a_merge_as_things_come_and_go(self):
        part = part_of(MERGE)
        yard = Yard([(2, ())] + [(1, ())] * 6)
        self.assertEqual(part.wants(yard), (0,))
        yard.hand(0, 0)
        self.assertEqual(part.wants(yard), (0, 3, 4))
        yard.hand(0, 5)
        self.assertEqual(part.wants(yard), (0, 3, 4))
        yard.taken(0)
        self.assertEqual(part.wants(yard), (0, 1, 2))
        yard.taken(0)
        self.assertEqual(part.wants(yard), (0,))

    def test_a_merge_of_told_alone(self):
        for told in ((), (0,), (1,)):
            self.check(("merge", 1, (), (), ()), [(1, ()), (1, told)], (1,))


class Made(unittest.TestCase):
    def check(self, row, things, pairs):
        part = part_of(row)
        kept = copy.deepcopy((row, things))
        for _ in range(2):
            told = part.made(things)
            self.assertEqual(told, pairs)
            self.assertEqual([type(told), *map(type, told)], [list] + [tuple] * len(told))
            self.assertEqual((row, things), kept)
            told.clear()

    def test_passes(self):
        self.check(PASS, [10, 20], [(7, 20), (8, 10), (9, 20)])
        self.check(("pass", (3,), (1, 0), (0, 0)), [5], [(1, 5), (0, 5)])
        self.check(("pass", (0, 1, 2), (3, 4), (0, 2)), [5, 6, 7], [(3, 5), (4, 7)])
        self.check(("pass", (0, 1), (), ()), [5, 6], [])
        self.check(("pass", (0,), (0,), (0,)), [5], [(0, 5)])

    def test_works(self):
        self.check(WORK, [3, 10], [(6, 7)])
        self.check(WORK, [10, 3], [(6, WHEEL - 7)])
        self.check(("work", (0,), 1, "-", ("in", 0), ("is", 1)), [0], [(1, WHEEL - 1)])
        self.check(("work", (0,), 1, "-", ("is", 8), ("in", 0)), [3], [(1, 5)])
        self.check(("work", (0,), 1, "+", ("is", 99), ("is", 0)), [7], [(1, 99)])
        self.check(("work", (0, 1), 2, "*", ("in", 1), ("in", 1)), [7, 3], [(2, 9)])

    def test_the_signs(self):
        for sign, thing in zip("+-*/<=&|^", (17, 7, 60, 2, 0, 0, 4, 13, 9), strict=True):
            self.check(("work", (0, 1), 2, sign, ("in", 0), ("in", 1)), [12, 5], [(2, thing)])
        self.check(("work", (0, 1), 2, "/", ("in", 0), ("in", 1)), [12, 0], [(2, 0)])

    def test_chooses(self):
        ones = [(4, 10), (5, 20), (6, 30), (10, 1)]
        self.check(CHOOSE, [10, 20, 30], ones)
        self.check(CHOOSE, [10, 0, 30], [(7, 10), (8, 0), (9, 30), (10, 0)])
        self.check(CHOOSE, [0, 1, 0], [(4, 0), (5, 1), (6, 0), (10, 1)])
        self.check(CHOOSE, [0, WHEEL - 1, 0], [(4, 0), (5, WHEEL - 1), (6, 0), (10, 1)])
        for which in range(3):
            row = ("choose", (0, 1, 2), which, (3, 4, 5), (6, 7, 8), 9)
            things = [0, 0, 0]
            self.check(row, things, [(6, 0), (7, 0), (8, 0), (9, 0)])
            things[which] = 5
            self.check(row, things, [*zip((3, 4, 5), things), (9, 1)])

    def test_merges(self):
        for told in (0, 1, 7):
            self.check(MERGE, [told, 10, 20], [(5, 10), (6, 20)])
            self.check(("merge", 0, (), (), ()), [told], [])


if __name__ == "__main__":
    unittest.main()
