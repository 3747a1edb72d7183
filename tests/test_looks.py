"""Points 11, 12 and 13: names that are left out, left out together, and the help."""

import copy
import inspect
import itertools
import unittest

from fairbench.heaps import heaps_of
from fairbench.looks import help_for, left_out, left_out_together
from fairbench.worth import exchanges
from samples import benches_of, cases, sets_of

THIRTY_FIGURES = 10 ** 29 + 7
LOOKS = (left_out, left_out_together, help_for)


def plainly_left_out(count, heaps, bench):
    """Point 11, word by word."""
    everything = sum(many for named, many in heaps)
    for names in sets_of(count)[1:]:
        size = len(names)
        some = [many for named, many in heaps if set(names) <= set(named) and len(set(named) & set(bench)) < size]
        if len(bench) * sum(some) >= size * everything:
            return names
    return None


def plainly_left_out_together(count, heaps, bench):
    """Point 12, word by word: each set of fewer seated ones is tried."""
    everything = sum(many for named, many in heaps)
    for names in sets_of(count)[1:]:
        for size in range(len(names)):
            for few in itertools.combinations(bench, size):
                some = [many for named, many in heaps
                        if set(names) <= set(named) and set(named) & set(bench) <= set(few)]
                if len(bench) * sum(some) >= len(names) * everything:
                    return names
    return None


class Interface(unittest.TestCase):
    def test_the_names_of_the_arguments(self):
        for look in LOOKS:
            self.assertEqual(list(inspect.signature(look).parameters), ["count", "heaps", "bench"])

    def test_arguments_may_be_handed_in_by_name(self):
        heaps = [((1,), 2)]
        self.assertEqual(left_out(count=2, heaps=heaps, bench=(0,)), (1,))
        self.assertEqual(left_out_together(count=2, heaps=heaps, bench=(0,)), (1,))
        self.assertEqual(help_for(count=2, heaps=heaps, bench=(0,)), ((1,), (0, 1, 120)))


class LeftOut(unittest.TestCase):
    def test_a_bench_that_leaves_none_out(self):
        self.assertIsNone(left_out(2, [((0,), 3)], (0,)))
        self.assertIsNone(left_out(3, [((0,), 3), ((1,), 2), ((2,), 1)], (0, 1)))

    def test_a_bench_of_all_names_leaves_none_out(self):
        for count, heaps in cases():
            self.assertIsNone(left_out(count, heaps, tuple(range(count))))

    def test_one_name_just_enough_and_one_ballot_fewer(self):
        for many in (1, 2, 5, THIRTY_FIGURES):
            self.assertEqual(left_out(3, [((0,), many), ((2,), many)], (0, 1)), (2,))
            self.assertIsNone(left_out(3, [((0,), many + 1), ((2,), many)], (0, 1)))

    def test_two_names_just_enough_and_one_ballot_fewer(self):
        for many in (1, 2, 5, THIRTY_FIGURES):
            for fewer, told in ((0, (3, 4)), (1, None)):
                heaps = heaps_of(5, [([0, 1], many + fewer), ([0, 3, 4], many), ([1, 3, 4], many - fewer)])
                self.assertEqual(left_out(5, heaps, (0, 1, 2)), told)

    def test_three_names_just_enough_and_one_ballot_fewer(self):
        for many in (2, 5, THIRTY_FIGURES):
            for fewer, told in ((0, (0, 4, 5)), (1, None)):
                heaps = [((0, 1, 2, 3), many + fewer), ((0, 1, 4, 5), many - fewer), ((0, 2, 4, 5), many),
                         ((0, 3, 4, 5), many)]
                self.assertEqual(left_out(6, heaps, (0, 1, 2, 3)), told)

    def test_three_names_none_of_whom_is_seated(self):
        heaps = [((0, 1, 3, 4, 5), 2), ((0, 2, 3, 4, 5), 2), ((1, 2, 3, 4, 5), 2)]
        self.assertEqual(left_out(6, heaps, (0, 1, 2)), (3, 4, 5))
        self.assertIsNone(left_out(6, [((0,), 1)] + heaps, (0, 1, 2)))

    def test_ballots_that_name_nobody_count_among_all(self):
        self.assertEqual(left_out(2, [((1,), 4)], (0,)), (1,))
        self.assertIsNone(left_out(2, [((), 1), ((1,), 4)], (0,)))
        self.assertEqual(left_out(3, [((), 4), ((2,), 4)], (0, 1)), (2,))
        self.assertIsNone(left_out(3, [((), 5), ((2,), 4)], (0, 1)))

    def test_the_empty_set_is_never_told(self):
        for count in range(1, 7):
            for bench in benches_of(count):
                self.assertIsNone(left_out(count, [((), 5)], bench))

    def test_ballots_that_name_more_than_these_count_too(self):
        self.assertEqual(left_out(5, [((0,), 3), ((2,), 1), ((2, 3), 1), ((2, 4), 1)], (0, 1)), (2,))

    def test_ballots_with_as_many_seated_do_not_count(self):
        self.assertIsNone(left_out(3, [((0, 1), 9)], (0,)))
        self.assertIsNone(left_out(4, [((0, 1, 2, 3), 9)], (0, 1)))
        self.assertIsNone(left_out(4, [((0, 1, 3), 9)], (0, 1)))
        self.assertIsNone(left_out(4, [((0, 1, 2, 3), 9)], (0, 1, 2)))

    def test_a_name_of_these_may_be_seated(self):
        self.assertEqual(left_out(3, [((0, 2), 5)], (0, 1)), (0, 2))

    def test_of_several_the_first_by_length_then_by_numbers(self):
        self.assertEqual(left_out(4, [((2,), 1), ((3,), 1)], (0, 1)), (2,))
        self.assertEqual(left_out(4, [((2, 3), 1)], (0, 1)), (2,))
        self.assertEqual(left_out(4, [((0, 2, 3), 5)], (0, 1)), (0, 2))
        self.assertEqual(left_out(6, [((5,), 2), ((0, 3, 4), 4)], (0, 1, 2)), (5,))
        self.assertEqual(left_out(6, [((5,), 1), ((0, 3, 4), 4)], (0, 1, 2)), (0, 3))
        self.assertEqual(left_out(6, [((0, 1, 4, 5), 4)], (0, 1, 2, 3)), (0, 1, 4))

    def test_against_the_words_of_the_point(self):
        told = set()
        for count, heaps in cases():
            for bench in benches_of(count):
                names = plainly_left_out(count, heaps, bench)
                self.assertEqual(left_out(count, heaps, bench), names, (count, heaps, bench))
                told.add(names if names is None else len(names))
        self.assertEqual(told & {None, 1, 2, 3}, {None, 1, 2, 3})

    def test_the_kinds_of_what_is_told(self):
        for look in (left_out, left_out_together):
            told = look(4, [((0, 2, 3), 5)], (0, 1))
            self.assertIs(type(told), tuple)
            self.assertEqual([type(name) for name in told], [int, int])


class LeftOutTogether(unittest.TestCase):
    def test_a_bench_that_leaves_none_out_together(self):
        self.assertIsNone(left_out_together(2, [((0,), 3)], (0,)))
        self.assertIsNone(left_out_together(3, [((0,), 3), ((1,), 2), ((2,), 1)], (0, 1)))
        for count, heaps in cases():
            self.assertIsNone(left_out_together(count, heaps, tuple(range(count))))

    def test_the_few_are_empty_just_enough_and_one_ballot_fewer(self):
        for many in (1, 2, 5, THIRTY_FIGURES):
            self.assertEqual(left_out_together(3, [((0,), many), ((2,), many)], (0, 1)), (2,))
            self.assertIsNone(left_out_together(3, [((0,), many + 1), ((2,), many)], (0, 1)))

    def test_the_few_are_one_just_enough_and_one_ballot_fewer(self):
        for seated in (0, 1, 2):
            names = (seated, 3)
            for many in (1, 2, 5, THIRTY_FIGURES):
                for fewer, told in ((0, names), (1, None)):
                    heaps = heaps_of(5, [([0, 1, 2], many + fewer), ([seated, 3, 4], 2 * many - fewer)])
                    self.assertEqual(left_out_together(5, heaps, (0, 1, 2)), told)

    def test_the_few_are_two_just_enough_and_one_ballot_fewer(self):
        for few in itertools.combinations((0, 1, 2, 3), 2):
            for many in (1, 2, 5, THIRTY_FIGURES):
                for fewer, told in ((0, few + (4,)), (1, None)):
                    heaps = heaps_of(6, [([0, 1, 2, 3], many + fewer), (list(few) + [4, 5], 3 * many - fewer)])
                    self.assertEqual(left_out_together(6, heaps, (0, 1, 2, 3)), told)

    def test_ballots_with_fewer_seated_than_the_few_hold_count_too(self):
        heaps = [((0, 1, 2, 3), 2), ((4, 5), 1), ((0, 4, 5), 1)]
        self.assertEqual(left_out_together(6, heaps, (0, 1, 2, 3)), (4,))
        heaps = [((0, 1, 2), 2), ((3, 4), 1), ((1, 3, 4), 3)]
        self.assertEqual(left_out_together(5, heaps, (0, 1, 2)), (3, 4))

    def test_left_out_but_not_together(self):
        for many in (1, 4, THIRTY_FIGURES):
            heaps = [((0, 1), many), ((0, 3, 4), many), ((1, 3, 4), many)]
            self.assertEqual(left_out(5, heaps, (0, 1, 2)), (3, 4))
            self.assertIsNone(left_out_together(5, heaps, (0, 1, 2)))
        heaps = [((0, 1, 3, 4, 5), 2), ((0, 2, 3, 4, 5), 2), ((1, 2, 3, 4, 5), 2)]
        self.assertEqual(left_out(6, heaps, (0, 1, 2)), (3, 4, 5))
        self.assertIsNone(left_out_together(6, heaps, (0, 1, 2)))

    def test_other_names_may_be_left_out_together(self):
        heaps = [((0, 4, 5), 4), ((1, 4, 5), 1), ((2, 4, 5), 1)]
        self.assertEqual(left_out(6, heaps, (0, 1, 2)), (0, 4))
        self.assertEqual(left_out_together(6, heaps, (0, 1, 2)), (0, 4))
        heaps = [((0, 1), 2), ((0, 2, 4), 1), ((1, 4, 5), 1), ((2, 4, 5), 1), ((3, 4, 5), 3)]
        self.assertEqual(left_out(6, heaps, (0, 1, 2, 3)), (4, 5))
        self.assertIsNone(left_out_together(6, heaps, (0, 1, 2, 3)))

    def test_the_empty_set_is_never_told(self):
        for count in range(1, 7):
            for bench in benches_of(count):
                self.assertIsNone(left_out_together(count, [((), 5)], bench))

    def test_of_several_the_first(self):
        self.assertEqual(left_out_together(4, [((2,), 1), ((3,), 1)], (0, 1)), (2,))
        self.assertEqual(left_out_together(4, [((0, 2, 3), 5)], (0, 1)), (0, 2))
        self.assertEqual(left_out_together(6, [((5,), 2), ((0, 3, 4), 4)], (0, 1, 2)), (5,))

    def test_against_the_words_of_the_point(self):
        told = set()
        for count, heaps in cases():
            for bench in benches_of(count):
                names = plainly_left_out_together(count, heaps, bench)
                self.assertEqual(left_out_together(count, heaps, bench), names, (count, heaps, bench))
                told.add(names if names is None else len(names))
        self.assertEqual(told & {None, 1, 2, 3}, {None, 1, 2, 3})

    def test_what_is_left_out_together_is_left_out(self):
        for count, heaps in cases():
            everything = sum(many for named, many in heaps)
            for bench in benches_of(count):
                names = left_out_together(count, heaps, bench)
                if names is not None:
                    some = [many for named, many in heaps
                            if set(names) <= set(named) and len(set(named) & set(bench)) < len(names)]
                    self.assertGreaterEqual(len(bench) * sum(some), len(names) * everything)
                    self.assertIsNotNone(left_out(count, heaps, bench))


class Help(unittest.TestCase):
    def test_none_where_no_names_are_left_out(self):
        self.assertIsNone(help_for(2, [((0,), 3)], (0,)))
        # An exchange that gains is no help where nobody is left out.
        self.assertEqual(exchanges(3, [((0,), 7), ((1,), 2), ((2,), 3)], (0, 1))[1], (1, 2, 60))
        self.assertIsNone(help_for(3, [((0,), 7), ((1,), 2), ((2,), 3)], (0, 1)))

    def test_one_name_left_out(self):
        self.assertEqual(help_for(3, [((0,), 4), ((2,), 4)], (0, 1)), ((2,), (1, 2, 240)))

    def test_names_left_out_but_not_together(self):
        heaps = [((0, 1), 5), ((0, 3, 4), 5), ((1, 3, 4), 5)]
        names, exchange = help_for(5, heaps, (0, 1, 2))
        self.assertEqual(names, (3, 4))
        self.assertIn(exchange, exchanges(5, heaps, (0, 1, 2)))
        self.assertGreater(exchange[2], 0)

    def test_many_ballots(self):
        heaps = [((0,), THIRTY_FIGURES), ((2,), THIRTY_FIGURES)]
        self.assertEqual(help_for(3, heaps, (0, 1)), ((2,), (1, 2, 60 * THIRTY_FIGURES)))

    def test_it_is_told_just_where_names_are_left_out(self):
        for count, heaps in cases():
            for bench in benches_of(count):
                told = help_for(count, heaps, bench)
                names = left_out(count, heaps, bench)
                self.assertEqual(told is None, names is None)
                if told is not None:
                    self.assertIs(type(told), tuple)
                    self.assertEqual(len(told), 2)
                    self.assertEqual(told[0], names)
                    self.assertIn(told[1], exchanges(count, heaps, bench))
                    self.assertGreater(told[1][2], 0)

    def test_the_kinds_of_what_is_told(self):
        told = help_for(3, [((0,), 4), ((2,), 4)], (0, 1))
        self.assertEqual([type(part) for part in told], [tuple, tuple])
        self.assertEqual([type(part) for part in told[1]], [int, int, int])


class Kept(unittest.TestCase):
    def test_the_heaps_and_the_bench_handed_in_stay_as_they_were(self):
        for count, heaps in cases():
            before = copy.deepcopy(heaps)
            for bench in benches_of(count):
                for look in LOOKS:
                    look(count, heaps, bench)
            self.assertEqual(heaps, before)

    def test_what_is_told_is_of_the_heaps_as_they_are_now(self):
        heaps = [((0,), 4), ((2,), 4)]
        for look in LOOKS:
            self.assertIsNotNone(look(3, heaps, (0, 1)))
        heaps[0] = ((0,), 5)
        for look in LOOKS:
            self.assertIsNone(look(3, heaps, (0, 1)))

    def test_the_same_is_told_whatever_was_asked_between(self):
        heaps = [((0,), 4), ((2,), 4)]
        for look in LOOKS:
            first = look(3, heaps, (0, 1))
            look(6, [((5,), 9)], (0, 1, 2))
            look(1, [((0,), 9)], (0,))
            self.assertEqual(look(3, heaps, (0, 1)), first)


if __name__ == "__main__":
    unittest.main()
