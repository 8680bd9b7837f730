import copy
import unittest

from handflow.deeds import deeds_of
from handflow.reader import read
from handflow.waits import waits_of
from looks import slow_waits
from samples import fed_samples


def waits_in(*rows):
    program = read("\n".join(rows))
    return waits_of(deeds_of(program), program[1])


class Waits(unittest.TestCase):
    def test_the_end_alone(self):
        self.assertEqual(waits_in(""), [[]])
        self.assertEqual(waits_in("ask n", "store q 1"), [[]])

    def test_kinds(self):
        told = waits_in("x = 1", "give x")
        self.assertEqual([type(told), type(told[2]), type(told[2][0])], [list, list, tuple])

    def test_cards(self):
        self.assertEqual(waits_in("x = 1", "y = 1", "x = 2", "x = 3"), [
            [], [], [(0, "card", "x")], [(2, "card", "x")], [(3, "card", "x"), (1, "card", "y")],
        ])
        self.assertEqual(waits_in("give x", "give y"), [[], [(0, "card", ">")], [(1, "card", ">")]])

    def test_copies(self):
        self.assertEqual(waits_in("x = 1", "y = x", "give x", "x = 2"), [
            [], [(0, "copy", "x")], [(0, "copy", "x")], [(0, "card", "x")],
            [(2, "card", ">"), (3, "card", "x"), (1, "card", "y")],
        ])

    def test_cards_that_no_deed_ahead_owns(self):
        self.assertEqual(waits_in("ask a", "x = a + b", "y = a"), [[], [], [(0, "card", "x"), (1, "card", "y")]])

    def test_own_cards_ahead_of_read_ones(self):
        self.assertEqual(waits_in("b = 1", "x = 1", "a = 1", "x = b + a")[3],
                         [(1, "card", "x"), (2, "copy", "a"), (0, "copy", "b")])
        self.assertEqual(waits_in("a = 1", "c = 1", "b = 1", "if c", "a = b", "end")[3],
                         [(0, "card", "a"), (2, "card", "b"), (1, "card", "c")])

    def test_blocks(self):
        told = waits_in("x = 1", "repeat 2", "x = x + y", "end", "while x", "end")
        self.assertEqual(told, [
            [], [(0, "card", "x")],
            [(1, "card", "x"), (1, "copy", "y")], [(2, "card", "x"), (1, "card", "y")],
            [(3, "card", "x"), (3, "copy", "y")], [(4, "card", "x"), (3, "card", "y")],
            [(5, "card", "x")],
            [(6, "card", ">"), (6, "card", "x"), (5, "card", "y")],
        ])

    def test_things(self):
        told = waits_in("store q 9", "put q x", "put q x", "get q a", "get q b")
        self.assertEqual(told[:4], [
            [], [(0, "card", "q>")], [(0, "thing", "q")], [(2, "card", "q<"), (1, "thing", "q")],
        ])

    def test_a_thing_comes_behind_the_cards(self):
        told = waits_in("store q 9", "put q x", "z = 1", "a = 1", "get q z", "put q x", "get q a")
        self.assertEqual(told[3], [(1, "card", "z"), (0, "thing", "q")])
        self.assertEqual(told[5], [(2, "card", "a"), (3, "card", "q<"), (4, "thing", "q")])

    def test_room(self):
        rows = ("put q x", "put q x", "get q a", "x = 1", "put q x")
        self.assertEqual(waits_in("store q 1", *rows)[:5], [
            [], [(0, "card", "q>"), (2, "room", "q")], [(0, "thing", "q")], [],
            [(1, "card", "q>"), (3, "copy", "x"), (5, "room", "q")],
        ])
        self.assertEqual(waits_in("store q 2", *rows)[:5], [
            [], [(0, "card", "q>")], [(0, "thing", "q")], [], [(1, "card", "q>"), (3, "copy", "x"), (2, "room", "q")],
        ])
        self.assertEqual(waits_in("store q 3", *rows)[4], [(1, "card", "q>"), (3, "copy", "x")])
        self.assertEqual(waits_in("store q 2000", *rows), waits_in("store q 3", *rows))

    def test_room_behind_a_get_that_stands_ahead(self):
        told = waits_in("store q 1", "put q x", "get q a", "put q x", "get q a", "put q x")
        self.assertEqual(told[2], [(0, "card", "q>"), (1, "room", "q")])
        self.assertEqual(told[4], [(2, "card", "q>"), (3, "room", "q")])

    def test_room_by_the_last_deed_of_all(self):
        told = waits_in("store q 2", *["put q x"] * 5, "get q a", "give a")
        self.assertEqual([row[-1] for row in told[2:5]], [(5, "room", "q"), (7, "room", "q"), (7, "room", "q")])

    def test_several_stores(self):
        told = waits_in("store q 1", "store r 2", "put q x", "put r x", "put r x", "put q x", "put r x",
                        "get r a", "get q b", "get r c", "get q d")
        self.assertEqual([row[-1] for row in told[3:9]], [
            (6, "room", "q"), (5, "room", "r"),
            (1, "thing", "r"), (0, "thing", "q"), (2, "thing", "r"), (3, "thing", "q"),
        ])

    def test_a_store_called_like_a_variable(self):
        told = waits_in("store x 1", "x = 1", "put x x", "get x x")
        self.assertEqual(told, [
            [], [(0, "copy", "x")], [(0, "card", "x"), (1, "thing", "x")],
            [(2, "card", "x"), (2, "card", "x<"), (1, "card", "x>")],
        ])

    def test_other_lengths_than_the_text_tells(self):
        deeds = deeds_of(read("store q 1\nput q x\nput q x\nget q a\nget q a"))
        self.assertEqual(waits_of(deeds, [("q", 1)])[1], [(0, "card", "q>"), (2, "room", "q")])
        self.assertEqual(waits_of(deeds, [("q", 2)])[1], [(0, "card", "q>")])

    def test_against_a_slow_telling(self):
        for deeds, stores in fed_samples(120):
            for more in (0, 1, 5):
                longer = [(store, length + more) for store, length in stores]
                self.assertEqual(waits_of(deeds, longer), slow_waits(deeds, longer))

    def test_nothing_is_changed(self):
        deeds, stores = fed_samples(5)[4]
        before = copy.deepcopy((deeds, stores))
        told = waits_of(deeds, stores)
        kept = copy.deepcopy(told)
        self.assertEqual((deeds, stores), before)
        for row in told:
            row.append("changed")
        told.clear()
        self.assertEqual(waits_of(deeds, stores), kept)
        self.assertEqual((deeds, stores), before)


if __name__ == "__main__":
    unittest.main()
