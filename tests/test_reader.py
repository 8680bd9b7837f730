import unittest

from handflow.errors import BadNest, BadRow, FlowError, Hidden, NoStore, Twice
from handflow.reader import read

SET = ("set", "x", 1, "+", 0)


def text_of(*rows):
    return "\n".join(rows)


def body_of(*rows):
    return read(text_of(*rows))[2]


class ReaderCase(unittest.TestCase):
    def check_refused(self, kind, place, *rows):
        with self.assertRaises(FlowError, msg=rows) as caught:
            read(text_of(*rows))
        self.assertEqual((type(caught.exception), caught.exception.place), (kind, place), rows)


class Programs(ReaderCase):
    def test_the_empty_text(self):
        for text in ("", "\n", " ", "\n\n  \n"):
            self.assertEqual(read(text), ([], [], []))

    def test_kinds(self):
        program = read(text_of("ask a", "store q 2", "put q a", "if a", "else", "end"))
        self.assertIs(type(program), tuple)
        asks, stores, body = program
        self.assertEqual([type(thing) for thing in program], [list, list, list])
        self.assertEqual([type(pair) for pair in stores], [tuple])
        self.assertEqual([type(deed) for deed in body], [tuple, tuple])
        self.assertEqual([type(block) for block in body[1][2:]], [list, list])

    def test_heads_in_any_order(self):
        for rows in (
            ("ask b", "ask a", "store r 3", "store q 2000"),
            ("store r 3", "ask b", "store q 2000", "ask a"),
            ("store r 3", "store q 2000", "ask b", "ask a"),
        ):
            self.assertEqual(read(text_of(*rows)), (["b", "a"], [("r", 3), ("q", 2000)], []))
            self.assertEqual(read(text_of(*rows, "x = 1")), (["b", "a"], [("r", 3), ("q", 2000)], [SET]))

    def test_plain_deeds(self):
        body = body_of("store q 1", "x = a", "x = a + 0", "y = 2 * x", "put q y", "get q z", "give z")
        self.assertEqual(body, [
            ("set", "x", "a", "+", 0), ("set", "x", "a", "+", 0), ("set", "y", 2, "*", "x"),
            ("put", "q", "y"), ("get", "q", "z"), ("give", "z"),
        ])

    def test_a_store_and_a_variable_of_the_same_name(self):
        program = read(text_of("ask q", "store q 2", "put q q", "get q q", "q = q + 1", "give q"))
        self.assertEqual(program, (["q"], [("q", 2)], [
            ("put", "q", "q"), ("get", "q", "q"), ("set", "q", "q", "+", 1), ("give", "q"),
        ]))
        self.assertEqual(read(text_of("store q 2", "ask q"))[:2], (["q"], [("q", 2)]))

    def test_a_variable_needs_no_row(self):
        self.assertEqual(read("give x"), ([], [], [("give", "x")]))

    def test_rows_without_a_word(self):
        rows = ("ask a", "store q 1", "repeat 2", "put q a", "end", "if a", "give a", "else", "a = 1", "end")
        program = read(text_of(*rows))
        for blank in ("", "   "):
            for k in range(len(rows) + 1):
                self.assertEqual(read(text_of(*rows[:k], blank, blank, *rows[k:])), program)

    def test_blanks_ahead_and_behind(self):
        self.assertEqual(read("  if   a \n   x =  1\nend  "), ([], [], [("if", "a", [SET], [])]))

    def test_only_the_line_end_parts_rows(self):
        for text in ("give x\rgive y", "give x\x0cgive y", "give x\u2028give y"):
            self.check_refused(BadRow, 1, text)


class Blocks(ReaderCase):
    def test_empty_blocks(self):
        self.assertEqual(body_of("if a", "end"), [("if", "a", [], [])])
        self.assertEqual(body_of("if a", "else", "end"), [("if", "a", [], [])])
        self.assertEqual(body_of("while a", "end"), [("while", "a", [])])
        self.assertEqual(body_of("repeat 0", "end"), [("repeat", 0, [])])

    def test_if(self):
        self.assertEqual(body_of("if a", "x = 1", "end"), [("if", "a", [SET], [])])
        self.assertEqual(body_of("if a", "x = 1", "else", "end"), [("if", "a", [SET], [])])
        self.assertEqual(body_of("if a", "else", "x = 1", "end"), [("if", "a", [], [SET])])
        self.assertEqual(
            body_of("if a", "x = 1", "give a", "else", "give b", "x = 1", "end"),
            [("if", "a", [SET, ("give", "a")], [("give", "b"), SET])],
        )

    def test_loops(self):
        self.assertEqual(body_of("while a", "x = 1", "give x", "end"), [("while", "a", [SET, ("give", "x")])])
        self.assertEqual(body_of("repeat 99", "x = 1", "give x", "end"), [("repeat", 99, [SET, ("give", "x")])])

    def test_deeds_ahead_and_behind(self):
        for row, deed in (
            ("if a", ("if", "a", [SET], [])), ("while a", ("while", "a", [SET])), ("repeat 3", ("repeat", 3, [SET])),
        ):
            self.assertEqual(body_of("give b", row, "x = 1", "end", "give c"), [("give", "b"), deed, ("give", "c")])

    def test_within_one_another(self):
        heads = {"if a": ("if", "a"), "while b": ("while", "b"), "repeat 4": ("repeat", 4)}
        for outer in heads:
            for inner in heads:
                body = body_of(outer, "x = 1", inner, "give y", "end", "x = 1", "end", "give z")
                middle = heads[inner] + ([("give", "y")],) + (([],) if inner == "if a" else ())
                whole = heads[outer] + ([SET, middle, SET],) + (([],) if outer == "if a" else ())
                self.assertEqual(body, [whole, ("give", "z")])

    def test_else_belongs_to_the_innermost_if(self):
        self.assertEqual(
            body_of("if a", "if b", "else", "x = 1", "end", "else", "give c", "end"),
            [("if", "a", [("if", "b", [], [SET])], [("give", "c")])],
        )
        self.assertEqual(
            body_of("if a", "else", "if b", "x = 1", "else", "give c", "end", "give d", "end"),
            [("if", "a", [], [("if", "b", [SET], [("give", "c")]), ("give", "d")])],
        )

    def test_else_behind_a_block_that_has_ended(self):
        self.assertEqual(
            body_of("if a", "while b", "end", "else", "repeat 2", "end", "x = 1", "end"),
            [("if", "a", [("while", "b", [])], [("repeat", 2, []), SET])],
        )

    def test_blocks_side_by_side(self):
        self.assertEqual(
            body_of("if a", "x = 1", "end", "if a", "end", "repeat 1", "end", "repeat 1", "x = 1", "end"),
            [("if", "a", [SET], []), ("if", "a", [], []), ("repeat", 1, []), ("repeat", 1, [SET])],
        )

    def test_twelve_at_once(self):
        for row, deed in (("while a", ("while", "a")), ("repeat 1", ("repeat", 1)), ("if a", ("if", "a"))):
            found = body_of(*[row] * 12, "x = 1", *["end"] * 12)
            for depth in range(12):
                self.assertEqual(len(found), 1)
                self.assertEqual(found[0][:2], deed)
                found = found[0][2]
            self.assertEqual(found, [SET])

    def test_many_in_all_but_never_thirteen_at_once(self):
        body = body_of(*["repeat 1"] * 12, *["end", "repeat 1"] * 5, *["end"] * 12, *["if a", "end"] * 20)
        self.assertEqual(len(body), 21)

    def test_moves_within_repeats(self):
        self.assertEqual(
            body_of("store q 3", "repeat 2", "put q x", "repeat 3", "get q y", "end", "end"),
            [("repeat", 2, [("put", "q", "x"), ("repeat", 3, [("get", "q", "y")])])],
        )
        found = body_of("store q 3", *["repeat 1"] * 12, "put q x", "get q x", *["end"] * 12)
        for depth in range(12):
            found = found[0][2]
        self.assertEqual(found, [("put", "q", "x"), ("get", "q", "x")])

    def test_moves_behind_blocks_that_hide(self):
        body = body_of("store q 1", "if a", "end", "put q x", "while a", "end", "get q x",
                       "repeat 2", "if a", "else", "end", "put q x", "end")
        self.assertEqual([deed[0] for deed in body], ["if", "put", "while", "get", "repeat"])
        self.assertEqual(body[4][2], [("if", "a", [], []), ("put", "q", "x")])


class BadRows(ReaderCase):
    def test_alone(self):
        for row in ("no form", "x", "store q 0", "store q 2001", "repeat 100", "else x", "end x", "give 1"):
            self.check_refused(BadRow, 1, row)

    def test_all_rows_are_counted(self):
        self.check_refused(BadRow, 4, "", "ask a", "   ", "no form")
        self.check_refused(BadRow, 6, "if a", "", "x = 1", "end", "", "no form", "")

    def test_far_down(self):
        self.check_refused(BadRow, 1000, *["x = 1"] * 999, "x = 1 +")


class BadNests(ReaderCase):
    def test_heads_behind_others(self):
        for head in ("ask a", "store q 1"):
            for row in ("x = 1", "give x", "x = y < 2"):
                self.check_refused(BadNest, 2, row, head)
            for row in ("if x", "while x", "repeat 2"):
                self.check_refused(BadNest, 2, row, head)
                self.check_refused(BadNest, 3, row, "end", head)
            self.check_refused(BadNest, 3, "store r 1", "put r x", head)
            self.check_refused(BadNest, 3, "store r 1", "get r x", head)
            self.check_refused(BadNest, 3, "if x", "else", head)
            self.check_refused(BadNest, 4, "if x", "else", "end", head)

    def test_heads_behind_rows_without_a_word(self):
        self.assertEqual(read(text_of("", "ask a", "  ", "store q 1", "", "ask b")), (["a", "b"], [("q", 1)], []))

    def test_else_without_a_block(self):
        self.check_refused(BadNest, 1, "else")
        self.check_refused(BadNest, 2, "x = 1", "else")
        self.check_refused(BadNest, 3, "if a", "end", "else")

    def test_else_in_a_block_that_is_no_if(self):
        for row in ("while a", "repeat 2"):
            self.check_refused(BadNest, 2, row, "else")
            self.check_refused(BadNest, 3, "if a", row, "else")
            self.check_refused(BadNest, 4, "if a", "else", row, "else")

    def test_else_twice(self):
        self.check_refused(BadNest, 3, "if a", "else", "else")
        self.check_refused(BadNest, 5, "if a", "x = 1", "else", "x = 1", "else", "end")
        self.check_refused(BadNest, 6, "if a", "else", "if b", "else", "end", "else")

    def test_end_without_a_block(self):
        self.check_refused(BadNest, 1, "end")
        self.check_refused(BadNest, 3, "ask a", "store q 1", "end")
        for row in ("if a", "while a", "repeat 2"):
            self.check_refused(BadNest, 3, row, "end", "end")

    def test_the_thirteenth_block(self):
        for inner in ("if a", "while a", "repeat 2"):
            for outer in ("if a", "while a", "repeat 2"):
                self.check_refused(BadNest, 13, *[outer] * 12, inner, *["end"] * 13)
        self.check_refused(BadNest, 16, *["repeat 2"] * 12, "end", "repeat 2", "x = 1", "repeat 2")

    def test_else_opens_no_block(self):
        read(text_of(*["if a"] * 12, "else", *["end"] * 12))

    def test_a_block_without_its_end(self):
        for row in ("if a", "while a", "repeat 2"):
            self.check_refused(BadNest, 1, row)
            self.check_refused(BadNest, 3, row, "x = 1", "x = 1")
            self.check_refused(BadNest, 3, row, row, "end")
        self.check_refused(BadNest, 2, "if a", "else")

    def test_a_block_without_its_end_counts_all_rows(self):
        self.check_refused(BadNest, 5, "", "if a", "", "  ", "")
        for text, place in (("if a", 1), ("if a\n", 2), ("if a\n\n", 3), ("\n\nif a", 3), ("if a\n  ", 2)):
            self.check_refused(BadNest, place, text)


class Twices(ReaderCase):
    def test_asked_twice(self):
        self.check_refused(Twice, 2, "ask a", "ask a")
        self.check_refused(Twice, 5, "ask a", "store a 1", "ask b", "", "ask a")

    def test_told_twice(self):
        self.check_refused(Twice, 2, "store q 1", "store q 1")
        self.check_refused(Twice, 4, "store q 1", "ask q", "store r 1", "store q 2000")


class NoStores(ReaderCase):
    def test_alone(self):
        for row in ("put q x", "get q x"):
            self.check_refused(NoStore, 1, row)
            self.check_refused(NoStore, 3, "ask q", "store r 1", row)
            self.check_refused(NoStore, 3, "ask x", "repeat 2", row, "end")

    def test_told_only_behind(self):
        self.check_refused(NoStore, 1, "put q x", "store q 1")


class Hiddens(ReaderCase):
    def test_straight_within(self):
        for row in ("put q x", "get q x"):
            for block in ("if a", "while a"):
                self.check_refused(Hidden, 3, "store q 1", block, row, "end")
            self.check_refused(Hidden, 4, "store q 1", "if a", "else", row, "end")

    def test_in_many_steps(self):
        for row in ("put q x", "get q x"):
            for block in ("if a", "while a"):
                self.check_refused(Hidden, 4, "store q 1", block, "repeat 2", row)
                self.check_refused(Hidden, 4, "store q 1", "repeat 2", block, row)
                self.check_refused(Hidden, 13, "store q 1", block, *["repeat 2"] * 10, row)
                self.check_refused(Hidden, 13, "store q 1", *["repeat 2"] * 10, block, row)
                self.check_refused(Hidden, 5, "store q 1", block, "while b", "end", row)


class Order(ReaderCase):
    def test_bad_row_ahead_of_bad_nest(self):
        self.check_refused(BadRow, 2, "x = 1", "ask 1")
        self.check_refused(BadRow, 2, "x = 1", "store q 0")
        self.check_refused(BadRow, 1, "else x")
        self.check_refused(BadRow, 1, "end x")
        self.check_refused(BadRow, 13, *["repeat 2"] * 12, "repeat 100")

    def test_bad_row_ahead_of_the_others(self):
        self.check_refused(BadRow, 2, "store q 1", "store q 0")
        self.check_refused(BadRow, 2, "ask a", "ask a a")
        self.check_refused(BadRow, 2, "if a", "put q 1")
        self.check_refused(BadRow, 3, "store q 1", "if a", "get q 1")

    def test_bad_nest_ahead_of_twice(self):
        self.check_refused(BadNest, 3, "ask a", "x = 1", "ask a")
        self.check_refused(BadNest, 3, "store q 1", "x = 1", "store q 1")

    def test_no_store_ahead_of_hidden(self):
        for row in ("put q x", "get q x"):
            for block in ("if a", "while a"):
                self.check_refused(NoStore, 2, block, row)

    def test_the_first_row_of_several(self):
        faults = {
            BadRow: ("no form",), BadNest: ("else",), NoStore: ("put r x",), Twice: ("ask a",), Hidden: ("put q x",),
        }
        heads = ("ask a", "store q 1")
        for kind, rows in faults.items():
            ahead = ("if a",) if kind == Hidden else ()
            for others in faults.values():
                self.check_refused(kind, len(heads + ahead) + 1, *heads, *ahead, *rows, *others)

    def test_rows_ahead_of_the_missing_end(self):
        self.check_refused(BadRow, 2, "if a", "no form")
        self.check_refused(NoStore, 3, "if a", "if b", "put q x", "x = 1")
        self.check_refused(Hidden, 3, "store q 1", "while a", "get q x", "x = 1")


class Own(unittest.TestCase):
    TEXT = text_of("ask a", "store q 2", "repeat 2", "put q a", "end", "if a", "x = 1", "else", "give a", "end")

    def test_told_twice_the_same(self):
        self.assertEqual(read(self.TEXT), read(self.TEXT))

    def test_changes_change_no_later_answer(self):
        want = (["a"], [("q", 2)], [
            ("repeat", 2, [("put", "q", "a")]), ("if", "a", [SET], [("give", "a")]),
        ])
        asks, stores, body = read(self.TEXT)
        self.assertEqual((asks, stores, body), want)
        asks.append("b")
        stores.clear()
        body[0][2].append(SET)
        body[1][2].clear()
        body[1][3].clear()
        body.append(SET)
        self.assertEqual(read(self.TEXT), want)

    def test_empty_lists_are_not_shared(self):
        for text in ("", text_of("if a", "end", "if a", "end", "while a", "end", "repeat 1", "end")):
            first = read(text)
            again = repr(first)
            for block in first:
                block.append("changed")
            self.assertEqual(repr(read(text)), again)
        body = body_of("if a", "end", "if a", "end")
        body[0][2].append("changed")
        self.assertEqual(body, [("if", "a", ["changed"], []), ("if", "a", [], [])])

    def test_a_refusal_leaves_nothing_behind(self):
        want = read(self.TEXT)
        for text in ("ask a\nask a", "store q 1\nif a\nput q a", "if a", "no form"):
            with self.assertRaises(FlowError):
                read(text)
            self.assertEqual(read(self.TEXT), want)


if __name__ == "__main__":
    unittest.main()
