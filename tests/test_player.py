import copy
import unittest

from handflow.netmaker import net_of
from handflow.player import play
from handflow.reader import read
from plays import PACES, check_played, net_sample, pace_sample, slow_play
from samples import sample

THROUGH = ([(1, (5,)), (1, ())], [("pass", (0,), (1,), (0,))])
# A thing that goes round and round.
RING = ([(1, (7,))], [("pass", (0,), (0,), (0,))])


def row_of_things(count, *parts):
    """A line with things, and two more behind it."""
    return [(None, tuple(range(1, count + 1))), (1, ()), (None, ())], list(parts)


def short(log):
    return [(turn, part, word) for turn, part, word, _ in log]


def takings(log):
    return sum(word == "took" for _, _, word, _ in log)


class Turns(unittest.TestCase):
    def test_nothing_to_do(self):
        self.assertEqual(play([], []), (True, [], []))
        self.assertEqual(play([(2, (1,)), (None, ())], []), (True, [], [[1], []]))
        self.assertEqual(play([(1, ()), (1, ())], THROUGH[1]), (True, [], [[], []]))

    def test_one_part(self):
        log = [(0, 0, "took", [(0, 5)]), (1, 0, "gave", [(1, 5)])]
        self.assertEqual(play(*THROUGH), (True, log, [[], [5]]))

    def test_kinds(self):
        told = play(*THROUGH)
        self.assertEqual([type(told), *map(type, told)], [tuple, bool, list, list])
        for entry in told[1]:
            self.assertEqual([type(entry), *map(type, entry)], [tuple, int, int, str, list])
            self.assertEqual([type(pair) for pair in entry[3]], [tuple])
        self.assertEqual([type(stands) for stands in told[2]], [list, list])

    def test_all_give_ahead_of_all_that_take(self):
        # The part behind has the lower number: it takes in the very turn in which the other one gives.
        lines, parts = row_of_things(2, ("pass", (1,), (2,), (0,)), ("pass", (0,), (1,), (0,)))
        self.assertEqual(play(lines, parts), (True, [
            (0, 1, "took", [(0, 1)]),
            (1, 1, "gave", [(1, 1)]), (1, 0, "took", [(1, 1)]), (1, 1, "took", [(0, 2)]),
            (2, 0, "gave", [(2, 1)]), (2, 1, "gave", [(1, 2)]), (2, 0, "took", [(1, 2)]),
            (3, 0, "gave", [(2, 2)]),
        ], [[], [], [1, 2]]))

    def test_by_the_numbers_of_the_parts(self):
        lines, parts = row_of_things(2, ("pass", (0,), (1,), (0,)), ("pass", (1,), (2,), (0,)))
        self.assertEqual(short(play(lines, parts)[1]), [
            (0, 0, "took"), (1, 0, "gave"), (1, 0, "took"), (1, 1, "took"),
            (2, 0, "gave"), (2, 1, "gave"), (2, 1, "took"), (3, 1, "gave"),
        ])
        lines = [(1, (k,)) for k in range(5)] + [(1, ())] * 5
        parts = [("pass", (4 - k,), (5 + k,), (0,)) for k in range(5)]
        order = [(0, k, "took") for k in range(5)] + [(1, k, "gave") for k in range(5)]
        self.assertEqual(short(play(lines, parts)[1]), order)

    def test_by_their_numbers_whenever_they_came_to_wait(self):
        # Parts 1 and 2 are kept waiting by part 0 and by one another's rests; each turn's order is that of numbers.
        lines = [(None, (1, 2, 3)), (1, ()), (1, ()), (None, ()), (None, ())]
        parts = [("pass", (2,), (4,), (0,)), ("pass", (1,), (3,), (0,)), ("pass", (0,), (1, 2), (0, 0))]
        for pace in PACES:
            self.assertEqual(play(lines, parts, pace), slow_play(lines, parts, pace))

    def test_room_made_in_a_turn_is_used_in_the_next(self):
        lines, parts = row_of_things(2, ("pass", (0,), (1,), (0,)), ("pass", (1,), (2,), (0,)))
        lines[1] = (1, (9,))
        self.assertEqual(short(play(lines, parts)[1])[:6], [
            (0, 0, "took"), (0, 1, "took"), (1, 0, "gave"), (1, 1, "gave"), (1, 0, "took"), (1, 1, "took"),
        ])
        # With a rest at its first taking part 1 comes too late for part 0's second giving.
        log = play(lines, parts, [[0], [3, 0, 0]])[1]
        self.assertEqual(short(log), [
            (0, 0, "took"), (0, 1, "took"), (1, 0, "gave"), (1, 0, "took"), (4, 1, "gave"), (4, 1, "took"),
            (5, 0, "gave"), (5, 1, "gave"), (5, 1, "took"), (6, 1, "gave"),
        ])

    def test_all_lines_or_none(self):
        # One of the two lines is full: nothing is given on the other one.
        lines = [(1, (5,)), (1, ()), (1, (6,))]
        parts = [("pass", (0,), (1, 2), (0, 0))]
        self.assertEqual(play(lines, parts), (True, [(0, 0, "took", [(0, 5)])], [[], [], [6]]))
        parts = [("pass", (0,), (2, 1), (0, 0))]
        self.assertEqual(play(lines, parts), (True, [(0, 0, "took", [(0, 5)])], [[], [], [6]]))
        # One of two lines is empty: nothing is taken from the other one.
        lines = [(1, (5,)), (1, ()), (1, ())]
        for ins in ((0, 1), (1, 0)):
            self.assertEqual(play(lines, [("pass", ins, (2,), (0,))]), (True, [], [[5], [], []]))

    def test_still_with_things_held(self):
        lines = [(None, (1, 2, 3)), (1, ())]
        log = [(0, 0, "took", [(0, 1)]), (1, 0, "gave", [(1, 1)]), (1, 0, "took", [(0, 2)])]
        self.assertEqual(play(lines, THROUGH[1]), (True, log, [[3], [1]]))
        lines[1] = (2, (8,))
        self.assertEqual(play(lines, THROUGH[1])[2], [[3], [8, 1]])

    def test_a_part_without_lines_to_give_on(self):
        lines = [(None, (4, 5)), (None, (6, 7, 8))]
        self.assertEqual(play(lines, [("pass", (0, 1), (), ())]), (True, [
            (0, 0, "took", [(0, 4), (1, 6)]), (1, 0, "gave", []), (1, 0, "took", [(0, 5), (1, 7)]), (2, 0, "gave", []),
        ], [[], [8]]))
        self.assertEqual(short(play(lines, [("pass", (0, 1), (), ())], [[2, 0]])[1]),
                         [(0, 0, "took"), (3, 0, "gave"), (3, 0, "took"), (4, 0, "gave")])

    def test_a_ring(self):
        told = play(*RING, None, 3)
        self.assertEqual((told[0], short(told[1]), told[2]), (False, [
            (0, 0, "took"), (1, 0, "gave"), (1, 0, "took"), (2, 0, "gave"), (2, 0, "took"), (3, 0, "gave"),
        ], [[7]]))

    def test_a_ring_of_two(self):
        lines = [(1, (1,)), (1, ())]
        parts = [("work", (0,), 1, "*", ("in", 0), ("is", 2)), ("pass", (1,), (0,), (0,))]
        still, log, left = play(lines, parts, None, 9)
        self.assertEqual((still, takings(log), left), (False, 9, [[], [32]]))
        lines = [(1, (1,)), (1, (3,))]
        self.assertEqual(play(lines, parts, None, 9), slow_play(lines, parts, None, 9))


class Kinds(unittest.TestCase):
    def test_a_choose(self):
        lines = [(None, (4, 0)), (None, (5, 6)), *[(None, ())] * 5]
        self.assertEqual(play(lines, [("choose", (0, 1), 0, (2, 3), (4, 5), 6)]), (True, [
            (0, 0, "took", [(0, 4), (1, 5)]), (1, 0, "gave", [(2, 4), (3, 5), (6, 1)]),
            (1, 0, "took", [(0, 0), (1, 6)]), (2, 0, "gave", [(4, 0), (5, 6), (6, 0)]),
        ], [[], [], [4], [5], [0], [6], [1, 0]]))

    def test_a_choose_needs_room_on_its_side_alone(self):
        lines = [(1, (4,)), (1, ()), (1, (9,)), (1, ())]
        parts = [("choose", (0,), 0, (1,), (2,), 3)]
        self.assertEqual(play(lines, parts)[2], [[], [4], [9], [1]])
        lines[0] = (1, (0,))
        self.assertEqual(play(lines, parts)[2], [[], [], [9], []])
        lines[2:] = [(1, ()), (1, (9,))]
        self.assertEqual(play(lines, parts)[2], [[], [], [], [9]])

    def test_a_merge(self):
        lines = [(None, (0, 7, 0, 1)), (None, (10, 11, 12)), (None, (20, 21, 22)), (None, ())]
        self.assertEqual(play(lines, [("merge", 0, (1,), (2,), (3,))]), (True, [
            (0, 0, "took", [(0, 0), (2, 20)]), (1, 0, "gave", [(3, 20)]), (1, 0, "took", [(0, 7), (1, 10)]),
            (2, 0, "gave", [(3, 10)]), (2, 0, "took", [(0, 0), (2, 21)]), (3, 0, "gave", [(3, 21)]),
            (3, 0, "took", [(0, 1), (1, 11)]), (4, 0, "gave", [(3, 11)]),
        ], [[], [12], [22], [20, 10, 21, 11]]))

    def test_a_merge_waits_for_its_side(self):
        lines = [(None, (1, 0)), (None, ()), (None, (20,)), (None, ())]
        self.assertEqual(play(lines, [("merge", 0, (1,), (2,), (3,))]), (True, [], [[1, 0], [], [20], []]))

    def test_a_merge_with_nothing_told(self):
        lines = [(1, ()), (1, (5,)), (1, (6,)), (1, ())]
        self.assertEqual(play(lines, [("merge", 0, (1,), (2,), (3,))]), (True, [], [[], [5], [6], []]))

    def test_a_work(self):
        lines = [(1, (5,)), (1, (8,)), (1, ())]
        parts = [("work", (0, 1), 2, "-", ("in", 0), ("in", 1))]
        self.assertEqual(play(lines, parts)[2], [[], [], [10 ** 30 - 3]])


class Paces(unittest.TestCase):
    def turns(self, pace, parts=3, things=4):
        lines = [(None, tuple(range(things)))] * parts + [(None, ())] * parts
        rows = [("pass", (k,), (parts + k,), (0,)) for k in range(parts)]
        told = play(lines, rows, pace)
        self.assertEqual(told, slow_play(lines, rows, pace))
        gave = [[turn for turn, k, word, _ in told[1] if (k, word) == (part, "gave")] for part in range(parts)]
        took = [[turn for turn, k, word, _ in told[1] if (k, word) == (part, "took")] for part in range(parts)]
        self.assertEqual([row[1:] for row in took], [row[:-1] for row in gave])
        return gave

    def test_no_rests(self):
        for pace in (None, [], [[]], [[0]], [[], []], [[0], []], [[0, 0], [0]]):
            self.assertEqual(self.turns(pace), [[1, 2, 3, 4]] * 3, pace)

    def test_one_row_for_all(self):
        self.assertEqual(self.turns([[2]]), [[3, 6, 9, 12]] * 3)
        self.assertEqual(self.turns([[0, 3]]), [[1, 5, 6, 10]] * 3)
        self.assertEqual(self.turns([[0, 1, 2, 3, 4, 5]]), [[1, 3, 6, 10]] * 3)

    def test_fewer_rows_than_parts(self):
        self.assertEqual(self.turns([[1], [0]]), [[2, 4, 6, 8], [1, 2, 3, 4], [2, 4, 6, 8]])

    def test_more_rows_than_parts(self):
        self.assertEqual(self.turns([[1], [0], [5, 0, 0], [9]]), [[2, 4, 6, 8], [1, 2, 3, 4], [6, 7, 8, 14]])

    def test_empty_rows_among_others(self):
        self.assertEqual(self.turns([[1], [], [2]]), [[2, 4, 6, 8], [1, 2, 3, 4], [3, 6, 9, 12]])
        self.assertEqual(self.turns([[], [4]]), [[1, 2, 3, 4], [5, 10, 15, 20], [1, 2, 3, 4]])

    def test_long_rests_are_passed_over(self):
        long = 10 ** 12
        self.assertEqual(self.turns([[long]]), [[long + 1, 2 * long + 2, 3 * long + 3, 4 * long + 4]] * 3)
        self.assertEqual(self.turns([[long], [long - 1, 0], [7 * 10 ** 9, 1]], things=2),
                         [[long + 1, 2 * long + 2], [long, long + 1], [7 * 10 ** 9 + 1, 7 * 10 ** 9 + 3]])
        told = play(*RING, [[long]], 2000)
        self.assertEqual((told[0], told[1][-1][0]), (False, 2000 * (long + 1)))

    def test_what_is_due_may_find_no_room(self):
        # It gives in the first turn in which there is room, though it was due long before.
        lines = [(None, (1, 2)), (1, ()), (None, ())]
        parts = [("pass", (0,), (1,), (0,)), ("pass", (1,), (2,), (0,))]
        self.assertEqual(short(play(lines, parts, [[0], [20]])[1]), [
            (0, 0, "took"), (1, 0, "gave"), (1, 0, "took"), (1, 1, "took"), (2, 0, "gave"),
            (22, 1, "gave"), (22, 1, "took"), (43, 1, "gave"),
        ])

    def test_still_only_when_no_rest_is_left(self):
        lines = [(1, (1,)), (1, (2,)), (1, ()), (1, ())]
        parts = [("pass", (0,), (2,), (0,)), ("pass", (1,), (3,), (0,))]
        self.assertEqual(short(play(lines, parts, [[0], [10 ** 9]])[1]),
                         [(0, 0, "took"), (0, 1, "took"), (1, 0, "gave"), (10 ** 9 + 1, 1, "gave")])


class Most(unittest.TestCase):
    def test_none(self):
        self.assertEqual(play(*THROUGH, None, 0), (False, [], [[5], []]))
        self.assertEqual(play([(1, ())], [], None, 0), (True, [], [[]]))
        self.assertEqual(play([(1, ()), (1, ())], THROUGH[1], None, 0), (True, [], [[], []]))

    def test_just_as_many_as_are_needed(self):
        lines, parts = row_of_things(3, ("pass", (0,), (1,), (0,)), ("pass", (1,), (2,), (0,)))
        whole = play(lines, parts)
        self.assertEqual((whole[0], takings(whole[1])), (True, 6))
        self.assertEqual(play(lines, parts, None, 6), whole)
        self.assertEqual(play(lines, parts, None, 7), whole)
        still, log, left = play(lines, parts, None, 5)
        self.assertEqual((still, takings(log)), (False, 5))
        self.assertEqual(log, whole[1][:len(log)])
        # All that is given in the turn ahead of the taking that isn't done is given.
        self.assertEqual(short(whole[1][len(log):]), [(3, 1, "took"), (4, 1, "gave")])
        self.assertEqual(left, [[], [3], [1, 2]])

    def test_in_the_midst_of_a_turn(self):
        lines = [(1, (k,)) for k in range(4)] + [(1, ())] * 4
        parts = [("pass", (k,), (4 + k,), (0,)) for k in range(4)]
        for most in range(4):
            still, log, left = play(lines, parts, None, most)
            self.assertEqual((still, short(log)), (False, [(0, k, "took") for k in range(most)]))
            self.assertEqual(left, [[]] * most + [[k] for k in range(most, 4)] + [[]] * 4)
        self.assertEqual(short(play(lines, parts, None, 4)[1])[4:], [(1, k, "gave") for k in range(4)])

    def test_left_out(self):
        still, log, left = play(*RING)
        self.assertEqual((still, takings(log), left, log[-1]), (False, 5000, [[7]], (5000, 0, "gave", [(0, 7)])))
        still, log, left = play(*RING, [[3]])
        self.assertEqual((still, takings(log), log[-1]), (False, 5000, (20000, 0, "gave", [(0, 7)])))
        self.assertEqual(play(*RING, most=4, pace=[[1]]), slow_play(*RING, [[1]], 4))


class Samples(unittest.TestCase):
    def check(self, lines, parts, pace, most):
        told = play(lines, parts, pace, most)
        self.assertEqual(told, slow_play(lines, parts, pace, most))
        check_played(self, lines, parts, pace, most, told)
        return told[0]

    def test_any_nets(self):
        words = {True: 0, False: 0}
        for seed in range(400):
            lines, parts = net_sample(seed)
            for pace in (PACES[seed % len(PACES)], pace_sample(seed)):
                for most in (60, seed % 9):
                    words[self.check(lines, parts, pace, most)] += 1
        self.assertGreater(min(words.values()), 100)

    def test_nets_of_programs(self):
        for seed in range(80):
            lines, parts, _ = net_of(read(sample(seed)), [seed, 1, 0, 2])
            for pace in (PACES[seed % len(PACES)], pace_sample(seed)):
                for most in (150, seed):
                    self.check(lines, parts, pace, most)

    def test_the_same_each_time(self):
        for seed in range(40):
            pace = pace_sample(seed)
            asked = (*net_sample(seed), pace, 50)
            before = copy.deepcopy(asked)
            told = play(*asked)
            kept = copy.deepcopy(told)
            self.assertEqual(asked, before)
            for _, _, _, things in told[1]:
                things.append("changed")
            for stands in told[2]:
                stands.append("changed")
            told[1].clear()
            self.assertEqual(asked, before)
            self.assertEqual(play(*asked), kept)

    def test_what_was_told_stays(self):
        lines, parts = net_sample(3)
        pace = [[1, 0], [2]]
        told = play(lines, parts, pace)
        kept = copy.deepcopy(told)
        lines.clear()
        parts.clear()
        pace.clear()
        self.assertEqual(told, kept)


if __name__ == "__main__":
    unittest.main()
