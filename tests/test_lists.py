"""Point 19: the order by quotients, and heaps that are no lists."""

import copy
import inspect
import itertools
import unittest
from fractions import Fraction

from fairbench.errors import BenchError, NoLists
from fairbench.heaps import heaps_of
from fairbench.lists import by_quotients
from fairbench.ways import Loads, Turns
from samples import FORTY_FIGURES, list_cases


def plainly_by_quotients(count, heaps):
    """Point 19, word by word."""
    order = []
    while True:
        quotients = {}
        for names, many in heaps:
            if set(names) - set(order):
                quotients[names] = Fraction(many, len(set(names) & set(order)) + 1)
        if not quotients:
            break
        greatest = [names for names in quotients if quotients[names] == max(quotients.values())]
        order.append(min(name for names in greatest for name in names if name not in order))
    return order + [name for name in range(count) if name not in order]


class Interface(unittest.TestCase):
    def test_the_arguments(self):
        self.assertEqual(list(inspect.signature(by_quotients).parameters), ["count", "heaps"])
        self.assertEqual(by_quotients(count=2, heaps=[((1,), 2)]), [1, 0])


class Order(unittest.TestCase):
    def test_one_heap(self):
        self.assertEqual(by_quotients(3, [((0, 1, 2), 5)]), [0, 1, 2])
        self.assertEqual(by_quotients(1, [((0,), 1)]), [0])

    def test_the_greatest_quotient_first(self):
        # 10, 6, 10/2, 10/3, 6/2, 6/3
        self.assertEqual(by_quotients(6, [((0, 1, 2), 6), ((3, 4, 5), 10)]), [3, 0, 4, 5, 1, 2])

    def test_a_quotient_is_divided_by_one_more_than_are_seated(self):
        self.assertEqual(by_quotients(3, [((2,), 5), ((0, 1), 9)]), [0, 2, 1])
        self.assertEqual(by_quotients(3, [((2,), 4), ((0, 1), 9)]), [0, 1, 2])

    def test_several_heaps_with_the_same_greatest_quotient(self):
        self.assertEqual(by_quotients(4, [((0, 3), 4), ((1, 2), 4)]), [0, 1, 2, 3])
        self.assertEqual(by_quotients(4, [((1, 3), 4), ((0, 2), 4)]), [0, 1, 2, 3])
        self.assertEqual(by_quotients(3, [((2,), 2), ((0, 1), 4)]), [0, 1, 2])
        self.assertEqual(by_quotients(3, [((0,), 2), ((1, 2), 4)]), [1, 0, 2])

    def test_the_same_quotient_with_unlike_numbers_of_ballots(self):
        heaps = [((4,), 2), ((0, 5), 4), ((1, 2, 3), 6)]
        # 6; then 4; then 3; then of 2, 2 and 2 the least number, each time.
        self.assertEqual(by_quotients(6, heaps), [1, 0, 2, 3, 4, 5])

    def test_heaps_that_run_out_of_names(self):
        self.assertEqual(by_quotients(4, [((3,), 100), ((0, 1, 2), 1)]), [3, 0, 1, 2])
        self.assertEqual(by_quotients(4, [((1,), 5), ((3,), 100), ((0, 2), 1)]), [3, 1, 0, 2])

    def test_names_of_no_heap_come_last_and_rising(self):
        self.assertEqual(by_quotients(6, [((5,), 1), ((2, 3), 1)]), [2, 5, 3, 0, 1, 4])
        self.assertEqual(by_quotients(3, [((2,), 1)]), [2, 0, 1])

    def test_ballots_that_name_nobody(self):
        self.assertEqual(by_quotients(3, [((), 1000)]), [0, 1, 2])
        self.assertEqual(by_quotients(4, [((), 1000), ((3,), 1), ((1, 2), 3)]), [1, 2, 3, 0])

    def test_numbers_of_forty_figures(self):
        many = FORTY_FIGURES
        self.assertEqual(by_quotients(2, [((0,), many - 1), ((1,), many)]), [1, 0])
        self.assertEqual(by_quotients(3, [((2,), many // 3), ((0, 1), 2 * (many // 3))]), [0, 1, 2])
        self.assertEqual(by_quotients(3, [((2,), many // 3), ((0, 1), 2 * (many // 3) - 1)]), [0, 2, 1])

    def test_against_the_words_of_the_point(self):
        for count, heaps in list_cases():
            self.assertEqual(by_quotients(count, heaps), plainly_by_quotients(count, heaps), (count, heaps))

    def test_turns_and_loads_tell_the_same_order(self):
        for count, heaps in list_cases():
            told = by_quotients(count, heaps)
            self.assertEqual([row[0] for row in Turns().order(count, heaps)], told)
            self.assertEqual([row[0] for row in Loads().order(count, heaps)], told)

    def test_each_name_once_and_the_kinds(self):
        for count, heaps in list_cases():
            told = by_quotients(count, heaps)
            self.assertIs(type(told), list)
            self.assertEqual({type(name) for name in told}, {int})
            self.assertEqual(sorted(told), list(range(count)))


class Refused(unittest.TestCase):
    def refused(self, count, heaps):
        with self.assertRaises(NoLists) as caught:
            by_quotients(count, heaps)
        self.assertIs(type(caught.exception), NoLists)
        self.assertIsInstance(caught.exception, BenchError)

    def test_a_name_in_two_heaps(self):
        self.refused(2, [((0,), 1), ((0, 1), 1)])
        self.refused(2, [((1,), 1), ((0, 1), 1)])
        self.refused(3, [((0, 1), 1), ((1, 2), 1)])
        self.refused(6, [((), 9), ((0,), 1), ((1,), 1), ((2, 3), 1), ((3, 4, 5), FORTY_FIGURES)])

    def test_each_two_heaps(self):
        sets = [names for length in range(5) for names in itertools.combinations(range(4), length)]
        for one, two in itertools.combinations(sets, 2):
            if set(one) & set(two):
                self.refused(4, [(one, 3), (two, 2)])
            else:
                self.assertEqual(len(by_quotients(4, [(one, 3), (two, 2)])), 4)

    def test_heaps_that_are_not_side_by_side(self):
        self.refused(4, [((0,), 1), ((1,), 1), ((2,), 1), ((0, 3), 1)])


class Kept(unittest.TestCase):
    def test_the_heaps_handed_in_stay_as_they_were(self):
        for count, heaps in list_cases():
            before = copy.deepcopy(heaps)
            by_quotients(count, heaps)
            self.assertEqual(heaps, before)

    def test_told_lists_are_the_askers_own(self):
        heaps = [((0,), 2), ((1, 2), 3)]
        first = by_quotients(3, heaps)
        second = by_quotients(3, heaps)
        first.clear()
        heaps[0] = ((0,), 9)
        self.assertEqual(second, [1, 0, 2])
        self.assertEqual(by_quotients(3, heaps), [0, 1, 2])

    def test_in_whatever_order_and_parts_the_ballots_came(self):
        rows = [([0, 1], 3), ([2], 2), ([], 1)]
        parts = [([2], 1), ([1, 0, 1], 1), ([], 1), ([0, 1], 2), ([3], 0), ([2, 2], 1)]
        told = by_quotients(4, heaps_of(4, rows))
        self.assertEqual(told, [0, 2, 1, 3])
        for other in (rows[::-1], parts, parts[::-1]):
            self.assertEqual(by_quotients(4, heaps_of(4, other)), told)


if __name__ == "__main__":
    unittest.main()
