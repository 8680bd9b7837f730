import unittest

from handflow.errors import (
    BadNest, BadRow, FlowError, Hidden, NoStore, Starved, TooMuch, Twice,
)

REFUSALS = (BadRow, BadNest, Twice, NoStore, Hidden, Starved, TooMuch)


class Errors(unittest.TestCase):
    def test_each_has_its_place(self):
        for kind in (FlowError,) + REFUSALS:
            for place in (0, 1, 2000):
                self.assertEqual(kind("some words", place).place, place)
                self.assertEqual(str(kind("some words", place)), "some words")

    def test_place_is_kept_when_raised(self):
        for kind in (FlowError,) + REFUSALS:
            with self.assertRaises(kind) as caught:
                raise kind("some words", 17)
            self.assertEqual(caught.exception.place, 17)

    def test_taken_by_the_base_and_by_value_error(self):
        for kind in REFUSALS:
            for base in (FlowError, ValueError):
                with self.assertRaises(base):
                    raise kind("some words", 3)

    def test_straight_under_the_base(self):
        self.assertEqual(FlowError.__bases__, (ValueError,))
        for kind in REFUSALS:
            self.assertEqual(kind.__bases__, (FlowError,), kind)

    def test_of_no_other_refusals_class(self):
        for kind in REFUSALS:
            found = [other for other in REFUSALS if isinstance(kind("some words", 3), other)]
            self.assertEqual(found, [kind])

    def test_the_base_is_no_refusal_itself(self):
        for kind in REFUSALS:
            self.assertNotIsInstance(FlowError("some words", 3), kind)

    def test_each_object_has_its_own_place(self):
        one = BadRow("one", 1)
        two = BadRow("two", 2)
        self.assertEqual((one.place, two.place), (1, 2))


if __name__ == "__main__":
    unittest.main()
