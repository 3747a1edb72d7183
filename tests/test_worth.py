"""Points 8, 9 and 10: the worth of a bench, its exchanges and its mending."""

import copy
import inspect
import itertools
import unittest
from fractions import Fraction

from fairbench.heaps import heaps_of
from fairbench.worth import exchanges, mended, worth
from samples import FORTY_FIGURES, benches_of, cases, sets_of

TO_ONE_BALLOT = [0, 60, 90, 110, 125, 137, 147]


def plain_worth(heaps, names):
    total = Fraction(0)
    for named, many in heaps:
        for place in range(1, len(set(named) & set(names)) + 1):
            total += Fraction(60 * many, place)
    return total


def plain_exchanges(count, heaps, bench):
    told = []
    for pair in itertools.product(range(count), repeat=2):
        if pair[0] in bench and pair[1] not in bench:
            after = set(bench) - {pair[0]} | {pair[1]}
            told.append(pair + (plain_worth(heaps, after) - plain_worth(heaps, bench),))
    return told


def plain_mended(count, heaps, bench):
    made = []
    while True:
        gaining = [told for told in plain_exchanges(count, heaps, bench) if told[2] > 0]
        if not gaining:
            return (made, bench)
        best = sorted(gaining, key=lambda told: (-told[2], told[0], told[1]))[0]
        made.append(best)
        bench = tuple(sorted(set(bench) - {best[0]} | {best[1]}))


class Interface(unittest.TestCase):
    def test_the_names_of_the_arguments(self):
        self.assertEqual(list(inspect.signature(worth).parameters), ["heaps", "names"])
        self.assertEqual(list(inspect.signature(exchanges).parameters), ["count", "heaps", "bench"])
        self.assertEqual(list(inspect.signature(mended).parameters), ["count", "heaps", "bench"])

    def test_arguments_may_be_handed_in_by_name(self):
        heaps = [((0,), 1), ((1,), 2)]
        self.assertEqual(worth(heaps=heaps, names=(1,)), 120)
        self.assertEqual(exchanges(count=2, heaps=heaps, bench=(0,)), [(0, 1, 60)])
        self.assertEqual(mended(count=2, heaps=heaps, bench=(0,)), ([(0, 1, 60)], (1,)))


class Worth(unittest.TestCase):
    def test_one_ballot_that_names_all(self):
        heaps = [((0, 1, 2, 3, 4, 5), 1)]
        for names in sets_of(6):
            self.assertEqual(worth(heaps, names), TO_ONE_BALLOT[len(names)], names)

    def test_one_ballot_and_all_names_seated(self):
        for named in sets_of(6):
            self.assertEqual(worth([(named, 1)], (0, 1, 2, 3, 4, 5)), TO_ONE_BALLOT[len(named)], named)

    def test_only_names_in_common_count(self):
        for named in sets_of(6):
            for names in sets_of(6):
                self.assertEqual(worth([(named, 1)], names), TO_ONE_BALLOT[len(set(named) & set(names))])

    def test_no_names_are_worth_nothing(self):
        self.assertEqual(worth([((0,), 3), ((0, 1), 4)], ()), 0)

    def test_ballots_that_name_nobody_of_the_set(self):
        self.assertEqual(worth([((), 9)], (0, 1)), 0)
        self.assertEqual(worth([((), 9), ((2, 3), 5)], (0, 1)), 0)
        self.assertEqual(worth([((), 9), ((0,), 2), ((2, 3), 5)], (0, 1)), 120)

    def test_all_ballots_together(self):
        heaps = [((), 50), ((0,), 2), ((0, 1), 3), ((1, 2), 5), ((0, 1, 2), 7)]
        self.assertEqual(worth(heaps, (0,)), 60 * 12)
        self.assertEqual(worth(heaps, (2,)), 60 * 12)
        self.assertEqual(worth(heaps, (0, 1)), 60 * 2 + 90 * 3 + 60 * 5 + 90 * 7)
        self.assertEqual(worth(heaps, (0, 1, 2)), 60 * 2 + 90 * 3 + 90 * 5 + 110 * 7)

    def test_heaps_of_many_ballots(self):
        for places in range(7):
            heaps = [((0, 1, 2, 3, 4, 5), FORTY_FIGURES)]
            self.assertEqual(worth(heaps, tuple(range(places))), TO_ONE_BALLOT[places] * FORTY_FIGURES)
        heaps = [((0,), FORTY_FIGURES), ((0, 1), FORTY_FIGURES - 1), ((1,), 1)]
        self.assertEqual(worth(heaps, (0, 1)), 60 * FORTY_FIGURES + 90 * (FORTY_FIGURES - 1) + 60)

    def test_it_is_a_whole_number(self):
        for names in sets_of(3):
            self.assertIs(type(worth([((0, 1, 2), 7), ((), 1)], names)), int)

    def test_against_a_plain_count(self):
        for count, heaps in cases():
            for names in sets_of(count):
                self.assertEqual(worth(heaps, names), plain_worth(heaps, names))


class Exchanges(unittest.TestCase):
    def test_gains_above_and_below_none(self):
        heaps = [((0,), 5), ((1,), 3), ((2,), 4)]
        self.assertEqual(exchanges(3, heaps, (0, 1)), [(0, 2, -60), (1, 2, 60)])

    def test_a_gain_of_none_is_told(self):
        self.assertEqual(exchanges(2, [((0,), 2), ((1,), 2)], (0,)), [(0, 1, 0)])

    def test_names_that_no_ballot_names(self):
        self.assertEqual(exchanges(4, [((1,), 2)], (1, 2)), [(1, 0, -120), (1, 3, -120), (2, 0, 0), (2, 3, 0)])
        self.assertEqual(exchanges(3, [((), 2)], (1,)), [(1, 0, 0), (1, 2, 0)])

    def test_a_second_one_seated_counts_half(self):
        self.assertEqual(exchanges(3, [((2,), 6), ((0, 1), 10)], (0, 1)), [(0, 2, 60), (1, 2, 60)])
        self.assertEqual(exchanges(3, [((2,), 4), ((0, 1), 10)], (0, 1)), [(0, 2, -60), (1, 2, -60)])

    def test_all_of_them_by_out_and_then_by_in(self):
        for count in range(1, 7):
            for bench in benches_of(count):
                told = [(out, into) for out, into, gain in exchanges(count, [((0,), 1)], bench)]
                self.assertEqual(told, [(out, into) for out in bench for into in range(count) if into not in bench])

    def test_a_bench_of_all_names_has_none(self):
        for count in range(1, 7):
            self.assertEqual(exchanges(count, [((0,), 3)], tuple(range(count))), [])

    def test_numbers_of_forty_figures(self):
        heaps = [((0,), FORTY_FIGURES - 1), ((1,), FORTY_FIGURES)]
        self.assertEqual(exchanges(2, heaps, (0,)), [(0, 1, 60)])
        self.assertEqual(exchanges(2, heaps, (1,)), [(1, 0, -60)])

    def test_against_a_plain_count(self):
        for count, heaps in cases():
            for bench in benches_of(count):
                self.assertEqual(exchanges(count, heaps, bench), plain_exchanges(count, heaps, bench))

    def test_the_kinds_of_all_that_is_told(self):
        told = exchanges(4, [((0, 1), 2), ((2,), 3)], (0, 1))
        self.assertIs(type(told), list)
        for exchange in told:
            self.assertIs(type(exchange), tuple)
            self.assertEqual([type(part) for part in exchange], [int, int, int])

    def test_each_told_list_is_a_new_one(self):
        heaps = [((0,), 1), ((1,), 2)]
        for bench, told in (((0,), [(0, 1, 60)]), ((0, 1), [])):
            first = exchanges(2, heaps, bench)
            second = exchanges(2, heaps, bench)
            self.assertIsNot(first, second)
            first.append("more")
            self.assertEqual(second, told)
            second.clear()
            self.assertEqual(exchanges(2, heaps, bench), told)


class Mended(unittest.TestCase):
    def test_a_bench_that_needs_no_exchange(self):
        heaps = [((0,), 5), ((1,), 3), ((2,), 4)]
        self.assertEqual(mended(3, heaps, (0, 2)), ([], (0, 2)))

    def test_exchanges_that_gain_nothing_are_not_made(self):
        self.assertEqual(mended(2, [((0,), 2), ((1,), 2)], (0,)), ([], (0,)))
        self.assertEqual(mended(2, [((0,), 2), ((1,), 2)], (1,)), ([], (1,)))
        self.assertEqual(mended(3, [((), 2)], (1, 2)), ([], (1, 2)))
        self.assertEqual(mended(3, [((2,), 5), ((0, 1), 10)], (0, 1)), ([], (0, 1)))

    def test_a_bench_of_all_names(self):
        for count in range(1, 7):
            self.assertEqual(mended(count, [((0,), 3)], tuple(range(count))), ([], tuple(range(count))))

    def test_the_least_gain_is_made(self):
        heaps = [((4,), 1), ((0, 1, 2), 1), ((1, 2, 3, 5), 3), ((0, 1, 2, 3, 4), 2)]
        self.assertEqual(mended(6, heaps, (0, 1, 2, 3, 4)), ([(0, 5, 1)], (1, 2, 3, 4, 5)))

    def test_numbers_of_forty_figures(self):
        heaps = [((0,), FORTY_FIGURES - 1), ((1,), FORTY_FIGURES)]
        self.assertEqual(mended(2, heaps, (0,)), ([(0, 1, 60)], (1,)))
        self.assertEqual(mended(2, heaps, (1,)), ([], (1,)))

    def test_several_exchanges_the_greatest_gain_first(self):
        heaps = [((0,), 1), ((1,), 2), ((2,), 3), ((3,), 4)]
        self.assertEqual(mended(4, heaps, (0, 1)), ([(0, 3, 180), (1, 2, 60)], (2, 3)))

    def test_three_exchanges(self):
        heaps = [((3,), 4), ((4,), 5), ((5,), 6), ((0, 1), 2), ((0, 2), 1)]
        told = ([(2, 5, 330), (1, 4, 240), (0, 3, 60)], (3, 4, 5))
        self.assertEqual(mended(6, heaps, (0, 1, 2)), told)

    def test_of_several_outs_the_first(self):
        self.assertEqual(mended(3, [((0,), 1), ((1,), 1), ((2,), 2)], (0, 1)), ([(0, 2, 60)], (1, 2)))

    def test_of_several_ins_the_first(self):
        self.assertEqual(mended(3, [((0,), 1), ((1,), 2), ((2,), 2)], (0,)), ([(0, 1, 60)], (1,)))

    def test_of_several_by_out_ahead_of_in(self):
        heaps = [((2,), 1), ((3,), 1), ((0, 3), 2), ((1, 2), 2)]
        self.assertEqual(exchanges(4, heaps, (0, 1)), [(0, 2, 0), (0, 3, 60), (1, 2, 60), (1, 3, 0)])
        self.assertEqual(mended(4, heaps, (0, 1)), ([(0, 3, 60), (1, 2, 60)], (2, 3)))

    def test_of_several_at_each_step(self):
        heaps = [((0,), 1), ((1,), 1), ((2,), 2), ((3,), 2)]
        self.assertEqual(mended(4, heaps, (0, 1)), ([(0, 2, 60), (1, 3, 60)], (2, 3)))

    def test_of_several_that_come_behind_a_lesser_gain(self):
        heaps = [((0,), 3), ((1,), 1), ((2,), 4), ((3,), 4)]
        self.assertEqual(mended(4, heaps, (0, 1)), ([(1, 2, 180), (0, 3, 60)], (2, 3)))

    def test_of_several_ahead_of_a_lesser_gain(self):
        heaps = [((0,), 1), ((1,), 3), ((2,), 4), ((3,), 4)]
        self.assertEqual(mended(4, heaps, (0, 1)), ([(0, 2, 180), (1, 3, 60)], (2, 3)))

    def test_the_told_bench_is_a_set_of_names(self):
        self.assertEqual(mended(3, [((0,), 9), ((1,), 1), ((2,), 5)], (1, 2)), ([(1, 0, 480)], (0, 2)))
        for count, heaps in cases():
            for bench in benches_of(count):
                left = mended(count, heaps, bench)[1]
                self.assertIs(type(left), tuple)
                self.assertEqual(left, tuple(sorted(set(left))))
                self.assertEqual(len(left), len(bench))
                self.assertEqual({type(name) for name in left}, {int})

    def test_against_a_plain_count(self):
        for count, heaps in cases():
            for bench in benches_of(count):
                self.assertEqual(mended(count, heaps, bench), plain_mended(count, heaps, bench))

    def test_each_exchange_and_its_gain_lead_to_the_bench_left(self):
        for count, heaps in cases():
            for bench in benches_of(count):
                made, left = mended(count, heaps, bench)
                at = bench
                for exchange in made:
                    self.assertIn(exchange, exchanges(count, heaps, at))
                    self.assertGreater(exchange[2], 0)
                    at = tuple(sorted(set(at) - {exchange[0]} | {exchange[1]}))
                self.assertEqual(at, left)
                self.assertEqual(worth(heaps, left) - worth(heaps, bench), sum(gain for out, into, gain in made))
                self.assertEqual([part for part in exchanges(count, heaps, left) if part[2] > 0], [])

    def test_a_mended_bench_is_mended(self):
        for count, heaps in cases():
            for bench in benches_of(count):
                left = mended(count, heaps, bench)[1]
                self.assertEqual(mended(count, heaps, left), ([], left))

    def test_the_kinds_of_all_that_is_told(self):
        for bench in ((0, 1), (2, 3)):
            told = mended(4, [((0,), 1), ((1,), 2), ((2,), 3), ((3,), 4)], bench)
            self.assertIs(type(told), tuple)
            self.assertEqual([type(part) for part in told], [list, tuple])
            for exchange in told[0]:
                self.assertIs(type(exchange), tuple)
                self.assertEqual([type(part) for part in exchange], [int, int, int])

    def test_the_told_list_is_new_each_time(self):
        heaps = [((0,), 1), ((1,), 2)]
        for bench, made in (((0,), [(0, 1, 60)]), ((1,), [])):
            first = mended(2, heaps, bench)
            second = mended(2, heaps, bench)
            self.assertIsNot(first[0], second[0])
            first[0].append("more")
            self.assertEqual(second[0], made)
            second[0].clear()
            self.assertEqual(mended(2, heaps, bench), (made, (1,)))


class Kept(unittest.TestCase):
    def test_the_heaps_and_the_bench_handed_in_stay_as_they_were(self):
        for count, heaps in cases():
            before = copy.deepcopy(heaps)
            for bench in benches_of(count):
                same = tuple(list(bench))
                worth(heaps, bench)
                exchanges(count, heaps, bench)
                mended(count, heaps, bench)
                self.assertEqual(bench, same)
            self.assertEqual(heaps, before)

    def test_what_is_done_with_the_heaps_behind_the_call_changes_nothing(self):
        heaps = [((0,), 1), ((1,), 2)]
        told = exchanges(2, heaps, (0,))
        made = mended(2, heaps, (0,))
        heaps[1] = ((1,), 9)
        heaps.append(((0, 1), 4))
        self.assertEqual(told, [(0, 1, 60)])
        self.assertEqual(made, ([(0, 1, 60)], (1,)))

    def test_what_is_told_is_of_the_heaps_as_they_are_now(self):
        heaps = [((0,), 1), ((1,), 2)]
        self.assertEqual(worth(heaps, (0,)), 60)
        self.assertEqual(exchanges(2, heaps, (0,)), [(0, 1, 60)])
        self.assertEqual(mended(2, heaps, (0,)), ([(0, 1, 60)], (1,)))
        heaps[0] = ((0,), 5)
        self.assertEqual(worth(heaps, (0,)), 300)
        self.assertEqual(exchanges(2, heaps, (0,)), [(0, 1, -180)])
        self.assertEqual(mended(2, heaps, (0,)), ([], (0,)))

    def test_the_same_is_told_whatever_was_asked_between(self):
        heaps = [((0,), 1), ((1,), 2), ((0, 2), 3)]
        first = (worth(heaps, (0,)), exchanges(3, heaps, (0,)), mended(3, heaps, (1,)))
        mended(2, [((0,), 9), ((1,), 8)], (1,))
        exchanges(6, [((5,), 9)], (1, 2))
        worth([((5,), 9)], (5,))
        self.assertEqual((worth(heaps, (0,)), exchanges(3, heaps, (0,)), mended(3, heaps, (1,))), first)


class Whole(unittest.TestCase):
    """Of point 4: what is told hangs on the ballots alone."""

    ROWS = [([0, 1], 3), ([2], 4), ([3, 1, 2], 2), ([], 5)]
    PARTS = [([2], 1), ([], 5), ([1, 0, 1], 2), ([2, 1, 3], 1), ([2, 2], 3), ([0], 0), ([0, 1], 1), ([3, 2, 1], 1)]

    def test_in_whatever_order_they_came(self):
        whole = heaps_of(4, self.ROWS)
        for walk in itertools.permutations(self.ROWS):
            self.same(whole, heaps_of(4, list(walk)))

    def test_in_whatever_parts_they_came(self):
        whole = heaps_of(4, self.ROWS)
        for turn in range(len(self.PARTS)):
            walk = self.PARTS[turn:] + self.PARTS[:turn]
            self.same(whole, heaps_of(4, walk))
            self.same(whole, heaps_of(4, walk[::-1]))

    def test_ballot_by_ballot(self):
        single = [(names, 1) for names, many in self.ROWS for ballot in range(many)]
        self.same(heaps_of(4, self.ROWS), heaps_of(4, single))

    def same(self, one, two):
        self.assertEqual(one, two)
        for bench in benches_of(4):
            self.assertEqual(worth(one, bench), worth(two, bench))
            self.assertEqual(exchanges(4, one, bench), exchanges(4, two, bench))
            self.assertEqual(mended(4, one, bench), mended(4, two, bench))


if __name__ == "__main__":
    unittest.main()
