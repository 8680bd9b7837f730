import copy
import unittest

from handflow.deeds import deeds_of
from handflow.looker import looked
from handflow.reader import read
from looks import check_looked
from samples import fed_samples


class Looks(unittest.TestCase):
    def check(self, word, *rows):
        program = read("\n".join(rows))
        deeds = deeds_of(program)
        told = looked(deeds, program[1])
        self.assertEqual(check_looked(self, deeds, program[1], told), word, rows)
        return told

    def check_mended(self, *rows):
        """The same rows with long stores are let by."""
        self.check("by", *[row[:7] + " 2000" if row.startswith("store") else row for row in rows])

    def test_without_stores(self):
        self.assertEqual(self.check("by", ""), ("by", [0]))
        self.check("by", "ask n", "x = 1", "give x", "while n", "n = n - 1", "end", "repeat 3", "x = x + n", "end")

    def test_just_enough(self):
        self.check("by", "store q 1", "put q x", "get q x")
        self.check("by", "store q 1", "repeat 9", "put q x", "get q x", "end")
        self.check("by", "store q 3", *["put q x"] * 3, *["get q x"] * 3)
        self.check("by", "store q 3", *["put q x"] * 3)

    def test_a_put_ahead_of_its_gets(self):
        # The gets own other cards than the puts, so they needn't come behind all puts.
        self.check("by", "store q 1", *["put q x"] * 9, *["get q y"] * 9)

    def test_a_get_into_the_variable_that_is_put(self):
        # What was put is a copy: the get needn't come behind all puts of its variable.
        self.check("by", "store q 1", "put q x", "put q x", "get q x", "x = 1", "put q x", "get q x", "get q x")
        self.check("by", "store q 1", "put q x", "put q x", "if x", "end", "get q x", "x = 1", "get q x")

    def test_a_ring_of_a_repeat(self):
        rows = ("store q 2", "repeat 3", "put q x", "end", "repeat 3", "get q y", "end")
        self.check("by", *rows)
        rows = ("store q 2", "repeat 3", "put q x", "x = y", "end", "repeat 3", "get q y", "end")
        told = self.check("ring", *rows)
        self.assertEqual([row for row in told[2] if row[1] == "room"], [(7, "room", "q")])
        self.check_mended(*rows)
        self.check("by", "store q 3", *rows[1:])

    def test_a_ring_by_the_last_deed_of_all(self):
        rows = ("store q 2", *["put q x"] * 3)
        told = self.check("ring", *rows)
        self.assertEqual(sorted(told[1]), [0, 1])
        self.assertEqual(sorted(told[2]), [(2, "room", "q"), (3, "card", "q>")])
        self.check_mended(*rows)
        told = self.check("ring", "store q 2", *["put q x"] * 6, "get q y")
        self.assertEqual(sorted(told[1]), [0, 1, 2, 6])
        self.assertEqual([row for row in told[2] if row[1] == "room"], [(3, "room", "q")])

    def test_a_ring_of_two_stores(self):
        # The gate behind the puts of each store keeps a card that the other store's get needs.
        rows = ("repeat 1", "put q a", "put q a", "z = 1", "end", "repeat 1", "put r b", "put r b", "y = 1", "end",
                "get q y", "get r z", "get q y", "get r z")
        told = self.check("ring", "store q 1", "store r 1", *rows)
        self.assertEqual(sorted(told[1]), [0, 1, 3, 5, 6, 8])
        self.assertEqual(sorted(told[2]), [
            (2, "room", "q"), (4, "card", "q>"), (7, "room", "r"),
            (9, "card", "r>"), (10, "card", "y"), (11, "card", "z"),
        ])
        self.check("by", "store q 2", "store r 1", *rows)
        self.check("by", "store q 1", "store r 2", *rows)

    def test_a_ring_with_a_copy(self):
        rows = ("repeat 1", "put q a", "put q a", "w = 1", "end", "y = w", "get q y", "get q y")
        told = self.check("ring", "store q 1", *rows)
        self.assertEqual(sorted(told[2]), [(2, "room", "q"), (4, "card", "q>"), (5, "copy", "w"), (6, "card", "y")])
        self.check("by", "store q 2", *rows)

    def test_a_ring_with_a_thing(self):
        rows = ("repeat 1", "put q a", "put q a", "w = 1", "end", "put r w", "get r y", "get q y", "get q y")
        told = self.check("ring", "store q 1", "store r 1", *rows)
        self.assertEqual(sorted(told[2]), [
            (2, "room", "q"), (4, "card", "q>"), (5, "copy", "w"), (6, "thing", "r"), (7, "card", "y"),
        ])
        self.check("by", "store q 2", "store r 1", *rows)
        self.check("ring", "store q 1", "store r 2000", *rows)

    def test_of_a_deed_with_room_all_else_is_done(self):
        # Each put behind the first one that finds no room waits for room and for the card besides.
        for puts in range(3, 9):
            told = self.check("ring", "store q 2", *["put q x"] * puts)
            self.assertEqual([row for row in told[2] if row[1] == "room"], [(2, "room", "q")])
        told = self.check("ring", "store q 1", "repeat 1", "put q x", "put q x", "w = 1", "end", "put q w", "get q w")
        self.assertEqual([row for row in told[2] if row[1] == "room"], [(2, "room", "q")])

    def test_crossed(self):
        crossed = ("put q x", "put q x", "put r x", "get r y", "get q y", "get q y")
        self.check("by", "store q 1", "store r 1", *crossed)

    def test_a_ring_through_a_block(self):
        rows = ("store q 1", "put q x", "x = 1", "put q x", "while x", "x = 0", "y = 0", "end", "get q y", "get q y")
        self.check("by", *rows)
        rows = ("store q 1", "repeat 1", "put q x", "put q x", "get q y", "get q y", "end")
        self.check("by", *rows)
        rows = ("store q 1", "repeat 2", "put q x", "end", "repeat 2", "get q x", "end")
        told = self.check("ring", *rows)
        self.assertEqual([row for row in told[2] if row[1] == "room"], [(3, "room", "q")])
        self.check_mended(*rows)

    def test_samples(self):
        words = {"by": 0, "ring": 0}
        for deeds, stores in fed_samples(250):
            for lengths in ([1, 1, 1], [2, 1, 3], [length for _, length in stores]):
                shorter = [(store, length) for (store, _), length in zip(stores, lengths)]
                words[check_looked(self, deeds, shorter, looked(deeds, shorter))] += 1
            longer = [(store, 2000) for store, _ in stores]
            self.assertEqual(check_looked(self, deeds, longer, looked(deeds, longer)), "by")
        self.assertGreater(min(words.values()), 100, words)

    def test_longer_stores_stay_let_by(self):
        for deeds, stores in fed_samples(60):
            words = [looked(deeds, [(store, length) for store, _ in stores])[0] for length in range(1, 12)]
            self.assertEqual(words, sorted(words, reverse=True))

    def test_many_deeds(self):
        rows = ("store q 1", "repeat 99", "repeat 4", "put q x", "end", "repeat 4", "get q y", "end", "end")
        deeds = deeds_of(read("\n".join(rows)))
        self.assertEqual(len(deeds), 99 * 19 + 2)
        told = looked(deeds, [("q", 1)])
        self.assertEqual(told[0], "by")
        self.assertEqual(sorted(told[1]), list(range(len(deeds))))

    def test_the_same_each_time(self):
        for deeds, stores in fed_samples(20):
            before = copy.deepcopy((deeds, stores))
            told = looked(deeds, stores)
            kept = copy.deepcopy(told)
            self.assertEqual((deeds, stores), before)
            for part in told[1:]:
                part.append("changed")
            self.assertEqual(looked(deeds, stores), kept)
            self.assertEqual((deeds, stores), before)


if __name__ == "__main__":
    unittest.main()
