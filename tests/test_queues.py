import unittest

from handflow.queues import Queue


class Queues(unittest.TestCase):
    def test_first_in_first_out(self):
        queue = Queue((4, 5))
        queue.lay(6)
        self.assertEqual((queue.standing(), queue.head(), queue.rest()), (3, 4, [4, 5, 6]))
        self.assertEqual([queue.take(), queue.take()], [4, 5])
        self.assertEqual((queue.standing(), queue.head(), queue.rest()), (1, 6, [6]))
        self.assertEqual(queue.take(), 6)
        self.assertEqual((queue.standing(), queue.head(), queue.rest()), (0, None, []))
        queue.lay(0)
        self.assertEqual((queue.standing(), queue.head(), queue.rest()), (1, 0, [0]))

    def test_what_it_begins_with_is_its_own(self):
        things = [1, 2]
        queue = Queue(things)
        things.append(3)
        told = queue.rest()
        told.append(4)
        self.assertEqual(queue.rest(), [1, 2])


if __name__ == "__main__":
    unittest.main()
