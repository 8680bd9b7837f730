import copy
import unittest

from handflow.deeds import deeds_of
from handflow.looker import looked
from handflow.mender import mended
from handflow.reader import read
from looks import check_looked, check_ring
from samples import fed_samples


def asked(*rows):
    program = read("\n".join(rows))
    return deeds_of(program), program[1]


def with_length(stores, name, length):
    return [(store, length if store == name else other) for store, other in stores]


class Menders(unittest.TestCase):
    def check(self, deeds, stores):
        """Checks all that is promised, and tells the stores."""
        told = mended(deeds, stores)
        self.assertEqual([type(told), *map(type, told)], [tuple, list, list])
        longer, papers = told
        for pair in longer + papers:
            self.assertEqual((type(pair), len(pair)), (tuple, 2))
        self.assertEqual([store for store, _ in longer], [store for store, _ in stores])
        self.assertTrue(all(new >= old for (_, new), (_, old) in zip(longer, stores)))
        self.assertEqual(check_looked(self, deeds, longer, looked(deeds, longer)), "by")
        self.assertEqual([store for store, _ in papers],
                         [store for (store, old), (_, new) in zip(stores, longer) if new > old])
        for store, ring in papers:
            shorter = with_length(longer, store, dict(longer)[store] - 1)
            self.check_paper(deeds, shorter, ring)
        return longer

    def check_paper(self, deeds, shorter, ring):
        seen = looked(deeds, shorter)
        self.assertEqual(check_looked(self, deeds, shorter, seen), "ring")
        self.assertTrue(all(type(row) is tuple and len(row) == 3 for row in ring))
        self.assertIs(type(ring), list)
        check_ring(self, deeds, shorter, seen[1], ring)

    def check_lengths(self, lengths, *rows):
        self.assertEqual([length for _, length in self.check(*asked(*rows))], lengths, rows)

    def check_as_they_are(self, *rows):
        deeds, stores = asked(*rows)
        self.assertEqual(mended(deeds, stores), (stores, []), rows)

    def test_let_by_already(self):
        self.check_as_they_are("")
        self.check_as_they_are("store q 1")
        self.check_as_they_are("store q 1", "store r 2000", "put q x", "put r x", "put r x", "get q y")
        self.check_as_they_are("store q 1", *["put q x"] * 9, *["get q y"] * 9)
        self.check_as_they_are("store q 2000", "repeat 99", "repeat 9", "put q x", "end", "end")
        self.check_as_they_are("store q 7", "store r 1", "repeat 9", "put q x", "get q x", "put r x", "get r x", "end")

    def test_one_store(self):
        self.check_lengths([3], "store q 1", *["put q x"] * 3)
        self.check_lengths([3], "store q 2", *["put q x"] * 3)
        self.check_lengths([3], "store q 2", "repeat 3", "put q x", "end", "repeat 3", "get q x", "end")
        self.check_lengths([5], "store q 1", *["put q x"] * 6, "get q y")

    def test_a_store_that_needs_much_more(self):
        for length in (1, 2, 500, 890):
            rows = (f"store q {length}", "repeat 99", "repeat 9", "put q x", "end", "end")
            self.assertEqual(mended(*asked(*rows))[0], [("q", 891)])
        self.check_lengths([99], "store q 1", "repeat 99", "put q x", "end", "repeat 99", "get q x", "end")

    def test_less_than_what_stands_there_at_once(self):
        # Plainly done, ten things stand in the store; but gets may come between the puts, up to the gate.
        for needed in range(1, 10):
            rows = [*["put q x"] * (10 - needed), "repeat 1", *["put q x"] * needed, "y = 1", "end",
                    *["get q z"] * (10 - needed), *["get q y"] * needed]
            for length in range(1, 12):
                self.check_lengths([max(needed, length)], f"store q {length}", *rows)

    def test_longer_than_needed_stays(self):
        rows = ("repeat 3", "put q x", "put r x", "end", "repeat 3", "get q x", "get r x", "end")
        self.check_lengths([3, 3], "store q 1", "store r 2", *rows)
        self.check_lengths([3, 2000], "store q 1", "store r 2000", *rows)
        self.check_lengths([50, 3], "store q 50", "store r 1", *rows)
        self.check_as_they_are("store q 3", "store r 4", *rows)

    def test_one_of_two_is_enough(self):
        rows = ("repeat 1", "put q a", "put q a", "z = 1", "end", "repeat 1", "put r b", "put r b", "y = 1", "end",
                "get q y", "get r z", "get q y", "get r z")
        self.assertEqual(sorted(length for _, length in self.check(*asked("store q 1", "store r 1", *rows))), [1, 2])
        self.assertEqual(sorted(length for _, length in self.check(*asked("store r 1", "store q 1", *rows))), [1, 2])

    def test_several_at_once(self):
        names = "abcdefgh"
        puts = [f"put {name} x" for name in names]
        rows = [f"store {name} {k + 1}" for k, name in enumerate(names)] + puts * 5
        self.check_lengths([5, 5, 5, 5, 5, 6, 7, 8], *rows)
        deeds, stores = asked(*rows)
        self.assertEqual([store for store, _ in mended(deeds, stores)[1]], list("abcd"))

    def test_papers_in_the_order_of_the_stores(self):
        rows = [*["put q x"] * 2, *["put r x"] * 2, *["put a x"] * 2]
        for heads in (("q", "r", "a"), ("r", "a", "q"), ("a", "q", "r")):
            deeds, stores = asked(*[f"store {name} 1" for name in heads], *rows)
            self.check(deeds, stores)
            self.assertEqual([store for store, _ in mended(deeds, stores)[1]], list(heads))

    def test_a_paper_is_a_ring_of_the_last_lengths(self):
        # With the second store still long the ring of the first one would be another.
        rows = ("repeat 2", "put q x", "put r x", "end", "repeat 2", "get r x", "end", "repeat 2", "get q x", "end")
        for heads in (("store q 1", "store r 1"), ("store r 1", "store q 1")):
            self.check_lengths([2, 2], *heads, *rows)

    def test_samples(self):
        lengthened = 0
        for deeds, stores in fed_samples(120):
            for lengths in ([1, 1, 1], [2, 1, 3], [length for _, length in stores], [2000, 1, 1]):
                shorter = [(store, length) for (store, _), length in zip(stores, lengths)]
                longer = self.check(deeds, shorter)
                lengthened += sum(old != new for old, new in zip(shorter, longer)) > 1
                self.assertEqual(longer == shorter, looked(deeds, shorter)[0] == "by")
        self.assertGreater(lengthened, 20)

    def test_many_stores(self):
        names = ["s" + a + b for a in "abcdefghij" for b in "abcdefghij"]
        deeds, stores = asked(*[f"store {name} 1" for name in names], "repeat 4",
                              *[f"put {name} x" for name in names], "end")
        longer, papers = mended(deeds, stores)
        self.assertEqual(longer, [(name, 4) for name in names])
        self.assertEqual([store for store, _ in papers], names)

    def test_nothing_is_changed(self):
        for deeds, stores in fed_samples(30):
            shorter = [(store, 1) for store, _ in stores]
            before = copy.deepcopy((deeds, shorter))
            told = mended(deeds, shorter)
            kept = copy.deepcopy(told)
            self.assertEqual((deeds, shorter), before)
            for _, ring in told[1]:
                ring.clear()
            told[0].clear()
            told[1].clear()
            self.assertEqual((deeds, shorter), before)
            self.assertEqual(mended(deeds, shorter), kept)


if __name__ == "__main__":
    unittest.main()
