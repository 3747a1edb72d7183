"""The refusals: the classes of fairbench.errors."""

import unittest

from fairbench import errors

KINDS = ("NoCount", "NoName", "NoHeap", "NoPlaces", "NoLists", "NoRoll", "NoBallot", "NoWay")


class Classes(unittest.TestCase):
    def test_the_base_stands_straight_under_value_error(self):
        self.assertEqual(errors.BenchError.__bases__, (ValueError,))

    def test_each_stands_straight_under_the_base(self):
        for kind in KINDS:
            self.assertEqual(getattr(errors, kind).__bases__, (errors.BenchError,), kind)

    def test_they_are_unlike_classes_under_their_own_names(self):
        self.assertEqual(len({getattr(errors, kind) for kind in KINDS}), len(KINDS))
        for kind in KINDS + ("BenchError",):
            self.assertEqual(getattr(errors, kind).__name__, kind)

    def test_each_is_raised_and_taken_as_any_refusal(self):
        for kind in KINDS:
            for taken in (getattr(errors, kind), errors.BenchError, ValueError):
                with self.assertRaises(taken):
                    raise getattr(errors, kind)("words")


if __name__ == "__main__":
    unittest.main()
