"""Point 4: what is promised over the whole program, over all its files at once."""

import itertools
import unittest

from fairbench.heaps import ballots, heaps_of
from fairbench.lists import by_quotients
from fairbench.looks import help_for, left_out, left_out_together
from fairbench.ways import Loads, Most, Turns, loads_behind
from fairbench.worth import exchanges, mended, worth
from samples import benches_of, cases, list_cases

WAYS = (Most, Turns, Loads)


def all_small_heaps():
    """All heaps of three names with at most two ballots of each of the seven sets that are not empty."""
    sets = [list(names) for names in benches_of(3)]
    for many in itertools.product(range(3), repeat=len(sets)):
        if any(many):
            yield 3, heaps_of(3, list(zip(sets, many)))


def all_cases():
    return itertools.chain(cases(), list_cases(), all_small_heaps())


def all_that_is_told(count, heaps):
    told = [ballots(heaps), heaps]
    for bench in benches_of(count):
        told.append((worth(heaps, bench), exchanges(count, heaps, bench), mended(count, heaps, bench)))
        told.append((left_out(count, heaps, bench), left_out_together(count, heaps, bench)))
        told.append(help_for(count, heaps, bench))
    for way in WAYS:
        told.append(way().order(count, heaps))
        told.append([way().bench(count, heaps, places) for places in range(1, count + 1)])
    told.append([loads_behind(count, heaps, places) for places in range(count + 1)])
    return told


class Mended(unittest.TestCase):
    def test_a_mended_bench_leaves_no_names_out_and_stays(self):
        for count, heaps in itertools.chain(cases(), list_cases()):
            for bench in benches_of(count):
                left = mended(count, heaps, bench)[1]
                self.assertIsNone(left_out(count, heaps, left), (count, heaps, bench))
                self.assertIsNone(left_out_together(count, heaps, left))
                self.assertIsNone(help_for(count, heaps, left))
                self.assertEqual(mended(count, heaps, left), ([], left))

    def test_helps_taken_one_by_one_end(self):
        for count, heaps in cases():
            for bench in benches_of(count):
                at = bench
                told = help_for(count, heaps, at)
                while told is not None:
                    leaving, coming, gain = told[1]
                    after = tuple(sorted(set(at) - {leaving} | {coming}))
                    self.assertEqual(worth(heaps, after) - worth(heaps, at), gain)
                    self.assertGreater(gain, 0)
                    at = after
                    told = help_for(count, heaps, at)
                self.assertIsNone(left_out(count, heaps, at))


class ByLoads(unittest.TestCase):
    def test_a_bench_filled_by_loads_leaves_no_names_out_together(self):
        for count, heaps in all_cases():
            for places in range(1, count + 1):
                bench = Loads().bench(count, heaps, places)
                self.assertIsNone(left_out_together(count, heaps, bench), (heaps, bench))

    def test_a_bench_filled_otherwise_may(self):
        heaps = [((0, 1), 3), ((2,), 3)]
        self.assertEqual(left_out_together(3, heaps, Most().bench(3, heaps, 2)), (2,))


class ByQuotients(unittest.TestCase):
    def test_lists_are_seated_alike(self):
        for count, heaps in list_cases():
            order = by_quotients(count, heaps)
            for way in (Turns, Loads):
                self.assertEqual([row[0] for row in way().order(count, heaps)], order)


class OnePlaceMore(unittest.TestCase):
    def test_it_is_the_bench_and_one_more(self):
        for count, heaps in all_cases():
            for way in WAYS:
                benches = [way().bench(count, heaps, places) for places in range(1, count + 1)]
                for places, bench in enumerate(benches, start=1):
                    self.assertEqual(len(set(bench)), places)
                for bench, more in zip(benches, benches[1:]):
                    self.assertLessEqual(set(bench), set(more))


class BallotsAlone(unittest.TestCase):
    ROWS = [([0, 1], 3), ([2], 4), ([3, 1, 2], 2), ([], 5)]
    PARTS = [([2], 1), ([], 5), ([1, 0, 1], 2), ([2, 1, 3], 1), ([2, 2], 3), ([0], 0), ([0, 1], 1), ([3, 2, 1], 1)]

    def test_other_orders(self):
        whole = all_that_is_told(4, heaps_of(4, self.ROWS))
        for walk in itertools.permutations(self.ROWS):
            self.assertEqual(all_that_is_told(4, heaps_of(4, list(walk))), whole)

    def test_other_parts(self):
        whole = all_that_is_told(4, heaps_of(4, self.ROWS))
        for turn in range(len(self.PARTS)):
            walk = self.PARTS[turn:] + self.PARTS[:turn]
            self.assertEqual(all_that_is_told(4, heaps_of(4, walk)), whole)
            self.assertEqual(all_that_is_told(4, heaps_of(4, walk[::-1])), whole)

    def test_ballot_by_ballot(self):
        single = [(names[::-1], 1) for names, many in self.ROWS for ballot in range(many)]
        self.assertEqual(all_that_is_told(4, heaps_of(4, single)), all_that_is_told(4, heaps_of(4, self.ROWS)))

    def test_other_heaps_asked_between(self):
        first = [all_that_is_told(count, heaps) for count, heaps in list(cases())[::7]]
        again = [all_that_is_told(count, heaps) for count, heaps in list(cases())[::7][::-1]]
        self.assertEqual(first, again[::-1])


if __name__ == "__main__":
    unittest.main()
