import copy
import unittest
from collections import Counter

from handflow.netmaker import net_of
from handflow.reader import read
from nets import check_net, given_by, taken_by
from samples import sample

WHEEL = 10 ** 30


class Nets(unittest.TestCase):
    def check(self, rows, numbers=(), **begun):
        """A net as the promises tell it, and of each kind so many parts as are told."""
        program = read("\n".join(rows))
        net = net_of(program, list(numbers))
        check_net(self, program, begun, net)
        return net

    def check_counts(self, rows, lines, **kinds):
        net = self.check(rows)
        self.assertEqual(Counter(part[0] for part in net[1]), Counter(kinds), rows)
        self.assertEqual(len(net[0]), lines, rows)

    def parts_of(self, kind, *rows):
        return [part for part in self.check(rows)[1] if part[0] == kind]


class Beginnings(Nets):
    def test_the_empty_program(self):
        lines, parts, ends = self.check([""])
        self.assertEqual(sorted(lines, key=repr), [(1, (0,)), (None, ())])
        outlet = lines.index((None, ()))
        self.assertEqual(parts, [("pass", (1 - outlet,), (), ())])
        self.assertEqual(ends, [(">", outlet)])

    def test_stores(self):
        for length in (1, 2, 1999, 2000):
            lines, parts, ends = self.check([f"store q {length}", "store a 7"])
            self.assertEqual([name for name, _ in ends], ["q", "a", ">"])
            self.assertEqual([lines[line] for _, line in ends], [(length, ()), (7, ()), (None, ())])
            self.assertEqual(len(parts[-1][1]), 5)
            self.assertEqual(len(lines), 8)

    def test_asked_numbers(self):
        rows = ["ask b", "ask a", "ask c", "d = a"]
        self.check(rows, [5, 6, 7], a=6, b=5, c=7)
        self.check(rows, [5], b=5)
        self.check(rows, [])
        self.check(rows, [5, 6, 7, 8, 9], a=6, b=5, c=7)

    def test_numbers_beyond_the_wheel(self):
        self.check(["ask a", "ask b", "ask c"], [-1, WHEEL, 3 * WHEEL + 4], a=WHEEL - 1, b=0, c=4)
        self.check(["ask a", "ask b", "ask c"], [-WHEEL, WHEEL - 1, -WHEEL - 3], a=0, b=WHEEL - 1, c=WHEEL - 3)
        self.check(["ask a"], [10 ** 3999 + 12], a=12)

    def test_the_end_takes_all_cards_as_sorted(self):
        lines, parts, ends = self.check(["ask y", "ask a", "store q 1"], [7, 8], y=7, a=8)
        self.assertEqual([lines[line] for line in parts[-1][1]],
                         [(1, (0,)), (1, (8,)), (1, (0,)), (1, (0,)), (1, (7,))])
        self.assertEqual(len(parts), 1)


class Singles(Nets):
    def test_sets(self):
        works = {
            "x = 3": ((1, "+", ("is", 3), ("is", 0)), 0),
            "x = 3 * 4": ((1, "*", ("is", 3), ("is", 4)), 0),
            "x = x": ((1, "+", ("in", 0), ("is", 0)), 0),
            "x = 5 - x": ((1, "-", ("is", 5), ("in", 0)), 0),
            "x = x ^ x": ((1, "^", ("in", 0), ("in", 0)), 0),
            "x = y / 9": ((2, "/", ("in", 1), ("is", 9)), 1),
            "x = 9 < y": ((2, "<", ("is", 9), ("in", 1)), 1),
            "x = y & y": ((2, "&", ("in", 1), ("in", 1)), 1),
            "x = x = y": ((2, "=", ("in", 0), ("in", 1)), 1),
            "x = y | x": ((2, "|", ("in", 1), ("in", 0)), 1),
        }
        for row, (form, forks) in works.items():
            work, = self.parts_of("work", row)
            self.assertEqual((len(work[1]), *work[3:]), form, row)
            self.assertEqual(len(self.parts_of("pass", row)), forks + 1, row)

    def test_a_set_of_two_others(self):
        for row in ("x = y - z", "x = z - y"):
            lines, parts, _ = self.check([row])
            work, = [part for part in parts if part[0] == "work"]
            self.assertEqual(sorted(work[4:]), [("in", 1), ("in", 2)])
            self.assertEqual(len(parts), 4)
            self.assertEqual(len(lines), 1 + 4 + 1 + 2 * 2)

    def test_which_side_is_which(self):
        # The numbers that the cards begin with show which line is whose.
        lines, parts, _ = self.check(["ask x", "ask y", "ask z", "x = z - y"], [1, 2, 3], x=1, y=2, z=3)
        work, = [part for part in parts if part[0] == "work"]
        givers = {line: part for part in parts for line in given_by(part)}
        self.assertEqual(lines[work[1][0]], (1, (1,)))
        read_of = [lines[givers[work[1][side[1]]][1][0]][1] for side in work[4:]]
        self.assertEqual(read_of, [(3,), (2,)])

    def test_long_numbers(self):
        work, = self.parts_of("work", f"x = {WHEEL - 1} * 0")
        self.assertEqual(work[4:], (("is", WHEEL - 1), ("is", 0)))

    def test_put_give_get(self):
        self.check_counts(["store q 2", "put q x"], lines=2 + 4 + 3, **{"pass": 3})
        self.check_counts(["give x"], lines=1 + 2 + 3, **{"pass": 3})
        self.check_counts(["store q 2", "get q x"], lines=2 + 4 + 2, **{"pass": 2})

    def test_routes(self):
        for row, route in (("put q x", (0, 1)), ("give x", (0, 1)), ("get q x", (0, 2))):
            parts = [part for part in self.parts_of("pass", "store q 2", row) if part[3] not in ((), (0, 0))]
            self.assertEqual([part[3] for part in parts], [route])

    def test_several_on_one_store(self):
        lines, parts, ends = self.check(["store q 2", "put q x", "put q y", "put q x", "get q x", "get q z"])
        store = ends[0][1]
        self.assertEqual(sum(store in given_by(part) for part in parts), 3)
        self.assertEqual(sum(store in taken_by(part) for part in parts), 2)
        self.assertEqual(sum(lines[line][0] is None for line in range(len(lines))), 1)
        self.check(["give x", "give y", "give x"])

    def test_several_stores(self):
        self.check(["store q 2", "store r 3", "store s 4", "put q x", "put r x", "get q y", "put s y", "get r y"])

    def test_a_store_called_like_a_variable(self):
        self.check(["store x 2", "put x x", "x = 1", "get x x", "give x"])
        self.check(["ask x", "store x 2", "put x y"], [4], x=4)


class Choices(Nets):
    def test_an_if(self):
        self.check_counts(["if x", "end"], lines=1 + 2 + 4, **{"pass": 1, "choose": 1, "merge": 1})
        self.check_counts(["if x", "y = 1", "end"], lines=1 + 3 + 3 * 2 + 1 + 1,
                          **{"pass": 1, "choose": 1, "merge": 1, "work": 1})
        self.check_counts(["if x", "y = 1", "else", "z = 1", "end"], lines=1 + 4 + 3 * 3 + 1 + 2,
                          **{"pass": 1, "choose": 1, "merge": 1, "work": 2})
        self.check(["if x", "else", "give y", "end", "give x"])

    def test_which(self):
        for name, which in (("a", 1), ("k", 1), ("z", 2)):
            choose, = self.parts_of("choose", f"if {name}", "give k", "end")
            self.assertEqual(choose[2], which, name)

    def test_what_a_side_does_not_touch_goes_straight(self):
        lines, parts, _ = self.check(["if x", "y = 1", "else", "z = 1", "end"])
        choose, = [part for part in parts if part[0] == "choose"]
        merge, = [part for part in parts if part[0] == "merge"]
        self.assertEqual([choose[3][k] == merge[2][k] for k in range(3)], [True, False, True])
        self.assertEqual([choose[4][k] == merge[3][k] for k in range(3)], [True, True, False])
        self.assertEqual(lines[choose[5]], (1, ()))

    def test_ifs_within(self):
        self.check(["if x", "if y", "x = 1", "else", "give y", "end", "y = 2", "else", "if x", "end", "end"])
        self.check(["while x", "if y", "x = 1", "end", "end"])
        self.check(["repeat 3", "if y", "x = 1", "else", "give z", "end", "end"])


class Loops(Nets):
    def test_a_while(self):
        self.check_counts(["while x", "end"], lines=1 + 2 + 1 + 2 * 3, **{"pass": 1, "choose": 1, "merge": 1})
        self.check_counts(["while x", "x = x - 1", "end"], lines=1 + 2 + 1 + 2 * 3 + 1,
                          **{"pass": 1, "choose": 1, "merge": 1, "work": 1})
        self.check(["ask n", "while n", "give k", "n = n - k", "end", "give n"], [3], n=3)

    def test_the_line_told_begins_with_nought(self):
        for rows in (["while x", "end"], ["repeat 2", "give x", "end"]):
            lines, parts, _ = self.check(rows)
            choose, = [part for part in parts if part[0] == "choose"]
            self.assertEqual(lines[choose[5]], (1, (0,)))

    def test_a_repeat(self):
        for rounds in (0, 1, 2, 99):
            self.check_counts([f"repeat {rounds}", "x = x + 1", "end"], lines=1 + 2 + 2 + 1 + 2 * 2 + 1 + 2,
                              **{"pass": 1, "choose": 1, "merge": 1, "work": 3})
            work, = [part for part in self.parts_of("work", f"repeat {rounds}", "x = x", "end")
                     if part[4:] == (("is", rounds), ("is", 0))]
            self.assertEqual(work[3], "+")

    def test_the_count_of_a_repeat(self):
        lines, parts, _ = self.check(["repeat 7", "give x", "end"])
        choose, = [part for part in parts if part[0] == "choose"]
        self.assertEqual((len(choose[1]), choose[2]), (3, 2))
        rest = choose[4][-1]
        self.assertEqual(lines[rest], (1, (0,)))
        begins, = [part for part in parts if rest in taken_by(part)]
        self.assertEqual((begins[1], *begins[3:]), ((rest,), "+", ("is", 7), ("is", 0)))
        less, = [part for part in parts if choose[3][-1] in taken_by(part)]
        self.assertEqual((less[1], *less[3:]), ((choose[3][-1],), "-", ("in", 0), ("is", 1)))

    def test_the_card_of_the_outlet(self):
        for rows, counts in (
            (["repeat 2", "x = 1", "end"], [2]),
            (["repeat 2", "give x", "end"], [3]),
            (["while x", "end"], [2]),
            (["repeat 2", "while x", "end", "end"], [2, 3]),
            (["repeat 2", "if x", "end", "end"], [1, 2]),
        ):
            self.assertEqual(sorted(len(part[1]) for part in self.parts_of("choose", *rows)), counts, rows)

    def test_a_repeat_that_touches_nothing(self):
        for rows in (["repeat 5", "end"], ["repeat 5", "repeat 3", "end", "repeat 0", "end", "end"]):
            self.check_counts(rows, lines=2, **{"pass": 1})
        self.check_counts(["while x", "repeat 4", "end", "end"], lines=10, **{"pass": 1, "choose": 1, "merge": 1})
        self.check_counts(["store q 1", "repeat 4", "end"], lines=5, **{"pass": 1})

    def test_loops_within_loops(self):
        self.check(["repeat 2", "repeat 3", "x = x + 1", "end", "end"])
        self.check(["repeat 2", "repeat 3", "x = y", "repeat 4", "y = z", "end", "end",
                    "repeat 5", "give x", "end", "end"])
        self.check(["while x", "while y", "y = y - 1", "end", "repeat 2", "x = x - y", "end", "end", "give x"])
        self.check(["store q 2", "repeat 2", "put q x", "repeat 0", "get q y", "end", "x = 1", "end"])

    def test_twelve_within_one_another(self):
        for kind in ("if x", "while x", "repeat 2"):
            rows = [kind] * 12 + ["x = y - 1"] + ["end"] * 12
            self.check(rows)
        self.check(["repeat 2", "while a", "if b"] * 4 + ["give c"] + ["end"] * 12)

    def test_repeats_are_not_written_out(self):
        rows = ["repeat 99"] * 12 + ["give x"] + ["end"] * 12
        self.assertEqual(len(self.check(rows)[1]), 12 * 4 + 3)


class Whole(Nets):
    def test_samples(self):
        for seed in range(300):
            program = read(sample(seed))
            numbers = [seed, -seed, WHEEL + 3]
            begun = {name: number % WHEEL for name, number in zip(program[0], numbers)}
            check_net(self, program, begun, net_of(program, numbers))

    def test_the_same_each_time(self):
        for seed in range(30):
            program = read(sample(seed))
            numbers = [3, -1]
            before = copy.deepcopy((program, numbers))
            net = net_of(program, numbers)
            kept = copy.deepcopy(net)
            self.assertEqual((program, numbers), before)
            for told in net:
                told.clear()
            self.assertEqual(net_of(program, numbers), kept)
            self.assertEqual((program, numbers), before)

    def test_a_later_change_of_the_program_changes_no_net(self):
        program = read("ask x\nstore q 2\nif x\ny = 1\nend\nwhile x\nx = x - 1\nend")
        numbers = [4]
        net = net_of(program, numbers)
        kept = copy.deepcopy(net)
        numbers.clear()
        for part in program:
            part.clear()
        self.assertEqual(net, kept)


class Walks(Nets):
    """The walk itself refuses what isn't a net of the program."""

    def refuses(self, program, net):
        with self.assertRaises(AssertionError):
            check_net(self, program, {}, net)

    def test_it_refuses_other_nets(self):
        program = read("store q 2\nrepeat 3\nput q x\nend\nif x\ngive y\nelse\ny = x\nend")
        lines, parts, ends = net_of(program, [])
        self.refuses(program, (lines + [(1, ())], parts, ends))
        self.refuses(program, (lines, [("pass", (0,), (), ()), *parts], ends))
        self.refuses(program, (lines, parts, ends[::-1]))
        for k in range(len(parts)):
            self.refuses(program, (lines, parts[:k] + parts[k + 1:], ends))
        for k in range(len(lines)):
            self.refuses(program, (lines[:k] + [(3, lines[k][1])] + lines[k + 1:], parts, ends))
            self.refuses(program, (lines[:k] + [(lines[k][0], (1,))] + lines[k + 1:], parts, ends))


if __name__ == "__main__":
    unittest.main()
