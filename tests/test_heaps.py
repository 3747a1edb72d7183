"""Points 5, 6 and 7: names, heaps, their order, and what is refused."""

import copy
import inspect
import itertools
import unittest

from fairbench.errors import BenchError, NoCount, NoHeap, NoName
from fairbench.heaps import ballots, earlier, heaps_of

FORTY_FIGURES = 10 ** 40 - 1


def sets_in_order(count):
    """All sets of names, from the empty one on, in the order of point 6."""
    return [names for length in range(count + 1) for names in itertools.combinations(range(count), length)]


class Interface(unittest.TestCase):
    def test_the_names_of_the_arguments(self):
        self.assertEqual(list(inspect.signature(heaps_of).parameters), ["count", "rows"])
        self.assertEqual(list(inspect.signature(earlier).parameters), ["one", "two"])
        self.assertEqual(list(inspect.signature(ballots).parameters), ["heaps"])

    def test_arguments_may_be_handed_in_by_name(self):
        self.assertEqual(heaps_of(count=2, rows=[([1], 3)]), [((1,), 3)])
        self.assertIs(earlier(one=(), two=(0,)), True)
        self.assertEqual(ballots(heaps=[((1,), 3)]), 3)


class Made(unittest.TestCase):
    def test_one_row_makes_one_heap(self):
        self.assertEqual(heaps_of(3, [([2, 0], 4)]), [((0, 2), 4)])

    def test_names_are_told_rising_and_once(self):
        self.assertEqual(heaps_of(6, [([5, 1, 3, 1, 5, 5, 0], 2)]), [((0, 1, 3, 5), 2)])

    def test_rows_of_the_same_names_are_put_together(self):
        rows = [([0, 1], 2), ([2], 5), ([1, 0], 3), ([1, 1, 0, 1], 4), ([2, 2], 1)]
        self.assertEqual(heaps_of(3, rows), [((2,), 6), ((0, 1), 9)])

    def test_unlike_sets_with_names_in_common_stay_apart(self):
        rows = [([0], 1), ([0, 1], 2), ([0, 1, 2], 3), ([1, 2], 4)]
        self.assertEqual(heaps_of(3, rows), [((0,), 1), ((0, 1), 2), ((1, 2), 4), ((0, 1, 2), 3)])

    def test_the_empty_set_of_names_makes_a_heap(self):
        self.assertEqual(heaps_of(1, [([], 3)]), [((), 3)])
        self.assertEqual(heaps_of(2, [([1], 1), ([], 3), ([], 4)]), [((), 7), ((1,), 1)])

    def test_a_row_of_no_ballots_makes_no_heap(self):
        self.assertEqual(heaps_of(3, [([0], 0), ([1], 2), ([], 0)]), [((1,), 2)])

    def test_a_row_of_no_ballots_adds_nothing_to_a_heap(self):
        for rows in ([([0], 0), ([0], 5)], [([0], 5), ([0], 0)]):
            self.assertEqual(heaps_of(2, rows), [((0,), 5)])

    def test_each_count_from_one_to_six(self):
        for count in range(1, 7):
            rows = [(list(range(count)), 1), ([count - 1], 2)]
            put = {}
            for names, many in rows:
                put[tuple(names)] = put.get(tuple(names), 0) + many
            told = [(names, put[names]) for names in sets_in_order(count) if names in put]
            self.assertEqual(heaps_of(count, rows), told)

    def test_a_single_name_and_a_single_ballot(self):
        self.assertEqual(heaps_of(1, [([0], 1)]), [((0,), 1)])

    def test_numbers_of_forty_figures(self):
        rows = [([0], FORTY_FIGURES), ([1], FORTY_FIGURES - 1), ([0], 1)]
        self.assertEqual(heaps_of(2, rows), [((0,), 10 ** 40), ((1,), FORTY_FIGURES - 1)])

    def test_many_rows_of_many_numbers(self):
        rows = [([k % 6, (k + 1) % 6] * 50, k) for k in range(100)]
        told = heaps_of(6, rows)
        self.assertEqual([names for names, many in told], [(0, 1), (0, 5), (1, 2), (2, 3), (3, 4), (4, 5)])
        self.assertEqual(dict(told)[(0, 1)], sum(range(0, 100, 6)))
        self.assertEqual(dict(told)[(0, 5)], sum(range(5, 100, 6)))

    def test_lists_somewhat_beyond_the_bound_are_not_refused(self):
        self.assertEqual(heaps_of(2, [([1] * 130, 1)] * 130), [((1,), 130)])

    def test_what_was_told_may_be_handed_in_again(self):
        told = heaps_of(4, [([3, 1], FORTY_FIGURES), ([1, 3], FORTY_FIGURES), ([], 2)])
        again = heaps_of(4, [(list(names), many) for names, many in told])
        self.assertEqual(again, told)


class Order(unittest.TestCase):
    def test_shorter_first_then_the_lesser_number_where_they_differ(self):
        rows = [([0, 1, 2], 1), ([2], 2), ([0, 3], 3), ([], 4), ([1, 2], 5), ([0], 6), ([0, 2], 7)]
        told = [((), 4), ((0,), 6), ((2,), 2), ((0, 2), 7), ((0, 3), 3), ((1, 2), 5), ((0, 1, 2), 1)]
        self.assertEqual(heaps_of(4, rows), told)

    def test_all_sets_of_names_at_once(self):
        for count in range(1, 7):
            told = [(names, place + 1) for place, names in enumerate(sets_in_order(count))]
            for walk in (told, told[::-1], told[1::2] + told[0::2]):
                self.assertEqual(heaps_of(count, [(list(names), many) for names, many in walk]), told)

    def test_the_order_does_not_hang_on_the_numbers_of_ballots(self):
        self.assertEqual(heaps_of(2, [([1], 9), ([0], 1)]), [((0,), 1), ((1,), 9)])
        self.assertEqual(heaps_of(2, [([1], 1), ([0], 9)]), [((0,), 9), ((1,), 1)])

    def test_whatever_the_order_of_the_rows(self):
        rows = [([1, 0], 2), ([2], 5), ([0, 1], 3), ([], 1), ([0], 0)]
        for walk in itertools.permutations(rows):
            self.assertEqual(heaps_of(3, list(walk)), [((), 1), ((2,), 5), ((0, 1), 5)])


class Kinds(unittest.TestCase):
    def test_all_that_is_told_is_of_the_kinds_told(self):
        told = heaps_of(4, [([3, 1], 2), ([], 1), ([0], 7), ([1, 3], 2)])
        self.assertIs(type(told), list)
        for heap in told:
            self.assertIs(type(heap), tuple)
            self.assertEqual(len(heap), 2)
            self.assertIs(type(heap[0]), tuple)
            self.assertEqual({type(name) for name in heap[0]} - {int}, set())
            self.assertIs(type(heap[1]), int)

    def test_a_number_of_ballots_is_a_whole_number(self):
        self.assertIs(type(ballots(heaps_of(1, [([0], 1)]))), int)


class Kept(unittest.TestCase):
    def test_the_rows_handed_in_stay_as_they_were(self):
        rows = [([2, 0, 2], 3), ([], 1), ([0, 2], 0), ([1], 4)]
        lists = [names for names, many in rows]
        before = copy.deepcopy(rows)
        heaps_of(3, rows)
        self.assertEqual(rows, before)
        for names, row in zip(lists, rows):
            self.assertIs(names, row[0])

    def test_the_rows_stay_as_they_were_where_they_are_refused(self):
        for rows in ([([2, 0], 3), ([5, 1, 1], 1)], [([2, 0], 3), ([1, 0], -1)], [([2, 0], 0)]):
            before = copy.deepcopy(rows)
            with self.assertRaises(BenchError):
                heaps_of(3, rows)
            self.assertEqual(rows, before)

    def test_what_is_done_with_the_rows_behind_the_call_changes_nothing(self):
        rows = [([1, 0], 3), ([2], 4)]
        told = heaps_of(3, rows)
        rows[0][0].append(2)
        rows[1][0].clear()
        rows.pop()
        self.assertEqual(told, [((2,), 4), ((0, 1), 3)])
        self.assertEqual(heaps_of(3, rows), [((0, 1, 2), 3)])

    def test_a_told_list_that_is_emptied_changes_nothing_told_later(self):
        rows = [([1, 0], 3), ([2], 4)]
        first = heaps_of(3, rows)
        first.clear()
        second = heaps_of(3, rows)
        self.assertEqual(second, [((2,), 4), ((0, 1), 3)])
        self.assertEqual(first, [])

    def test_each_told_list_is_a_new_one(self):
        rows = [([0], 3)]
        first = heaps_of(3, rows)
        second = heaps_of(3, rows)
        self.assertIsNot(first, second)
        self.assertIsNot(first, rows)
        second.append("more")
        heaps_of(3, [([1], 9)])
        self.assertEqual(first, [((0,), 3)])

    def test_a_refusal_leaves_nothing_behind(self):
        with self.assertRaises(NoHeap):
            heaps_of(2, [([0], 5), ([1], -1)])
        with self.assertRaises(NoName):
            heaps_of(2, [([0], 5), ([2], 1)])
        self.assertEqual(heaps_of(2, [([1], 1)]), [((1,), 1)])


class Refused(unittest.TestCase):
    def refused(self, kind, count, rows):
        with self.assertRaises(kind) as caught:
            heaps_of(count, rows)
        self.assertIs(type(caught.exception), kind, (count, rows))
        self.assertIsInstance(caught.exception, BenchError)
        self.assertIsInstance(caught.exception, ValueError)

    def test_counts(self):
        for count in (0, -1, -6, -FORTY_FIGURES, 7, 8, 60, FORTY_FIGURES):
            self.refused(NoCount, count, [([0], 1)])
            self.refused(NoCount, count, [([], 1)])

    def test_a_count_goes_ahead_of_names_and_ballots(self):
        for count in (0, -1, 7, 12):
            for rows in ([([-1], 1)], [([12], 1)], [([0], -1)], [([12], -1)], [([0], 0)], []):
                self.refused(NoCount, count, rows)

    def test_names(self):
        for count in range(1, 7):
            for name in (-1, -count, -count - 1, -FORTY_FIGURES, count, count + 1, FORTY_FIGURES):
                self.refused(NoName, count, [([name], 1)])

    def test_a_wrong_name_at_any_place_of_any_row(self):
        for wrong in (-1, 3):
            for row in range(3):
                for place in range(3):
                    rows = [([0, 1], 1), ([1, 2], 2), ([2, 0], 3)]
                    rows[row][0].insert(place, wrong)
                    self.refused(NoName, 3, rows)

    def test_a_wrong_name_in_a_row_of_no_ballots(self):
        self.refused(NoName, 3, [([0], 1), ([3], 0)])
        self.refused(NoName, 3, [([-1], 0), ([0], 1)])
        self.refused(NoName, 3, [([3], 0)])

    def test_a_name_goes_ahead_of_ballots(self):
        for wrong in (-1, 3):
            self.refused(NoName, 3, [([wrong], -1)])
            self.refused(NoName, 3, [([0], -1), ([wrong], 1)])
            self.refused(NoName, 3, [([wrong], 1), ([0], -1)])
            self.refused(NoName, 3, [([0], 0), ([1], 0), ([2, wrong], 0)])

    def test_ballots_below_none_in_any_row(self):
        for many in (-1, -2, -FORTY_FIGURES):
            self.refused(NoHeap, 3, [([0], many)])
            self.refused(NoHeap, 3, [([0], many), ([1], 5)])
            self.refused(NoHeap, 3, [([0], 5), ([1], 5), ([2], many)])
            self.refused(NoHeap, 3, [([0], 5), ([], many), ([2], 1)])

    def test_ballots_below_none_that_another_row_makes_up_for(self):
        self.refused(NoHeap, 3, [([0], -1), ([0], 3)])
        self.refused(NoHeap, 3, [([0, 1], 3), ([1, 0], -1)])
        self.refused(NoHeap, 3, [([0], 3), ([0], -3), ([1], 1)])

    def test_no_ballots_at_all(self):
        self.refused(NoHeap, 3, [])
        self.refused(NoHeap, 1, [])
        self.refused(NoHeap, 6, [([0], 0)])
        self.refused(NoHeap, 3, [([0], 0), ([], 0), ([2, 1], 0)])

    def test_a_single_ballot_is_enough(self):
        self.assertEqual(heaps_of(3, [([0], 0), ([], 1), ([2, 1], 0)]), [((), 1)])


class Earlier(unittest.TestCase):
    def test_unlike_lengths(self):
        for short, long in (((), (0,)), ((5,), (0, 1)), ((4, 5), (0, 1, 2)), ((0,), (0, 1)), ((1,), (0, 1, 2, 3))):
            self.assertIs(earlier(short, long), True)
            self.assertIs(earlier(long, short), False)

    def test_the_same_length(self):
        for first, second in (((0,), (1,)), ((0, 5), (1, 2)), ((0, 1, 5), (0, 2, 3)), ((0, 1, 2), (0, 1, 3))):
            self.assertIs(earlier(first, second), True)
            self.assertIs(earlier(second, first), False)

    def test_a_set_does_not_come_before_itself(self):
        for names in sets_in_order(6):
            self.assertIs(earlier(names, tuple(list(names))), False)

    def test_all_pairs_both_ways_about(self):
        sets = sets_in_order(6)
        for one, first in enumerate(sets):
            for two, second in enumerate(sets):
                self.assertIs(earlier(first, second), one < two, (first, second))


class Ballots(unittest.TestCase):
    def test_one_heap(self):
        self.assertEqual(ballots([((0,), 1)]), 1)
        self.assertEqual(ballots([((), 7)]), 7)
        self.assertEqual(ballots([((0, 1, 2), 7)]), 7)

    def test_many_heaps(self):
        self.assertEqual(ballots([((), 1), ((0,), 20), ((0, 1), 300), ((0, 2), 4000)]), 4321)

    def test_numbers_of_forty_figures(self):
        self.assertEqual(ballots([((0,), FORTY_FIGURES), ((1,), FORTY_FIGURES)]), 2 * FORTY_FIGURES)

    def test_the_same_rows_in_another_order_and_in_other_parts(self):
        rows = [([0, 1], 4), ([2], 3), ([], 2)]
        parts = [([2], 1), ([1, 0], 1), ([], 1), ([0, 1, 1], 3), ([2], 0), ([2], 2), ([], 1)]
        self.assertEqual(ballots(heaps_of(3, rows)), 9)
        self.assertEqual(ballots(heaps_of(3, rows[::-1])), 9)
        self.assertEqual(ballots(heaps_of(3, parts)), 9)

    def test_the_heaps_handed_in_stay_as_they_were(self):
        heaps = [((), 1), ((0,), 20)]
        ballots(heaps)
        self.assertEqual(heaps, [((), 1), ((0,), 20)])
        heaps.append(((1,), 5))
        self.assertEqual(ballots(heaps), 26)


if __name__ == "__main__":
    unittest.main()
