"""Points 14 to 18: the orders and benches of the three ways, and the loads of the heaps."""

import copy
import inspect
import math
import unittest
from fractions import Fraction

from fairbench.errors import BenchError, NoPlaces
from fairbench.heaps import heaps_of
from fairbench.shares import added, less, lowest
from fairbench.ways import Loads, Most, Turns, Way, loads_behind
from fairbench.worth import worth
from samples import FORTY_FIGURES, cases, sample_heaps

WAYS = (Most, Turns, Loads)


def single_ballots(heaps):
    return [set(names) for names, many in heaps for ballot in range(many)]


def plain_most(count, heaps):
    votes = {name: sum(name in ballot for ballot in single_ballots(heaps)) for name in range(count)}
    rows = []
    while votes:
        name = [one for one in sorted(votes) if votes[one] == max(votes.values())][0]
        rows.append((name, votes.pop(name)))
    return rows


def plain_turns(count, heaps):
    rows = []
    left = list(range(count))
    while left:
        growths = {}
        for name in left:
            seated = {row[0] for row in rows}
            growths[name] = sum(Fraction(60 * many, len(seated & set(names)) + 1)
                                for names, many in heaps if name in names)
        name = [one for one in left if growths[one] == max(growths.values())][0]
        rows.append((name, growths[name]))
        left.remove(name)
    return rows


def plain_steps(count, heaps):
    """Point 17 ballot by ballot: behind each step (name, its load, the loads of the unseated, those of the ballots)."""
    ballots = single_ballots(heaps)
    loads = [Fraction(0)] * len(ballots)
    left = [name for name in range(count) if any(name in ballot for ballot in ballots)]
    steps = []
    while left:
        told = {}
        for name in left:
            own = [load for ballot, load in zip(ballots, loads) if name in ballot]
            told[name] = (1 + sum(own)) / len(own)
        name = [one for one in left if told[one] == min(told.values())][0]
        loads = [told[name] if name in ballot else load for ballot, load in zip(ballots, loads)]
        left.remove(name)
        steps.append((name, told[name], told, list(loads)))
    return steps


def plain_loads(count, heaps):
    steps = plain_steps(count, heaps)
    rows = [(name, (load.numerator, load.denominator)) for name, load, told, loads in steps]
    named = [name for name, load in rows]
    return rows + [(name, None) for name in range(count) if name not in named]


class Interface(unittest.TestCase):
    def test_the_classes(self):
        for way in WAYS:
            self.assertTrue(issubclass(way, Way))
            self.assertIsInstance(way(), Way)

    def test_the_names_of_the_arguments(self):
        for way in (Way,) + WAYS:
            self.assertEqual(list(inspect.signature(way.order).parameters), ["self", "count", "heaps"])
            self.assertEqual(list(inspect.signature(way.bench).parameters), ["self", "count", "heaps", "places"])
        self.assertEqual(list(inspect.signature(loads_behind).parameters), ["count", "heaps", "places"])

    def test_arguments_may_be_handed_in_by_name(self):
        heaps = [((1,), 2)]
        self.assertEqual(Most().order(count=2, heaps=heaps), [(1, 2), (0, 0)])
        self.assertEqual(Turns().order(count=2, heaps=heaps), [(1, 120), (0, 0)])
        self.assertEqual(Loads().order(count=2, heaps=heaps), [(1, (1, 2)), (0, None)])
        for way in WAYS:
            self.assertEqual(way().bench(count=2, heaps=heaps, places=1), (1,))
        self.assertEqual(loads_behind(count=2, heaps=heaps, places=1), [(1, 2)])


class OfMost(unittest.TestCase):
    def test_the_most_first(self):
        heaps = [((0,), 1), ((1,), 5), ((2,), 3)]
        self.assertEqual(Most().order(3, heaps), [(1, 5), (2, 3), (0, 1)])

    def test_all_ballots_that_name_one_count(self):
        heaps = [((), 9), ((0,), 4), ((1, 2), 3), ((0, 2), 2), ((0, 1, 2), 1)]
        self.assertEqual(Most().order(3, heaps), [(0, 7), (2, 6), (1, 4)])

    def test_ties_go_to_the_least_number(self):
        self.assertEqual(Most().order(4, [((0,), 1), ((1, 3), 2), ((2,), 2)]), [(1, 2), (2, 2), (3, 2), (0, 1)])
        self.assertEqual(Most().order(3, [((0, 1, 2), 7)]), [(0, 7), (1, 7), (2, 7)])

    def test_names_that_no_ballot_names(self):
        self.assertEqual(Most().order(4, [((2,), 7)]), [(2, 7), (0, 0), (1, 0), (3, 0)])
        self.assertEqual(Most().order(3, [((), 7)]), [(0, 0), (1, 0), (2, 0)])

    def test_numbers_of_forty_figures(self):
        heaps = [((0,), FORTY_FIGURES - 1), ((1,), FORTY_FIGURES)]
        self.assertEqual(Most().order(2, heaps), [(1, FORTY_FIGURES), (0, FORTY_FIGURES - 1)])

    def test_against_a_plain_count(self):
        for count, heaps in cases():
            self.assertEqual(Most().order(count, heaps), plain_most(count, heaps))

    def test_the_kinds_of_all_that_is_told(self):
        for count, heaps in cases():
            told = Most().order(count, heaps)
            self.assertIs(type(told), list)
            for row in told:
                self.assertIs(type(row), tuple)
                self.assertEqual([type(part) for part in row], [int, int])


class OfTurns(unittest.TestCase):
    def test_a_second_one_counts_half_a_third_a_third(self):
        self.assertEqual(Turns().order(3, [((0, 1, 2), 6)]), [(0, 360), (1, 180), (2, 120)])
        told = [(0, 60), (1, 30), (2, 20), (3, 15), (4, 12), (5, 10)]
        self.assertEqual(Turns().order(6, [((0, 1, 2, 3, 4, 5), 1)]), told)

    def test_the_growth_hangs_on_those_seated(self):
        heaps = [((2,), 3), ((0, 1), 5)]
        self.assertEqual(Turns().order(3, heaps), [(0, 300), (2, 180), (1, 150)])
        self.assertEqual(Most().order(3, heaps), [(0, 5), (1, 5), (2, 3)])

    def test_ties_go_to_the_least_number(self):
        self.assertEqual(Turns().order(3, [((1,), 2), ((2,), 2)]), [(1, 120), (2, 120), (0, 0)])
        self.assertEqual(Turns().order(3, [((0,), 1), ((1, 2), 2)]), [(1, 120), (0, 60), (2, 60)])

    def test_names_that_no_ballot_names(self):
        self.assertEqual(Turns().order(4, [((2,), 7)]), [(2, 420), (0, 0), (1, 0), (3, 0)])
        self.assertEqual(Turns().order(3, [((), 7)]), [(0, 0), (1, 0), (2, 0)])

    def test_numbers_of_forty_figures(self):
        heaps = [((0,), FORTY_FIGURES - 1), ((1,), FORTY_FIGURES)]
        self.assertEqual(Turns().order(2, heaps), [(1, 60 * FORTY_FIGURES), (0, 60 * (FORTY_FIGURES - 1))])

    def test_against_a_plain_count(self):
        for count, heaps in cases():
            self.assertEqual(Turns().order(count, heaps), plain_turns(count, heaps))

    def test_all_growths_together_are_the_worth(self):
        for count, heaps in cases():
            rows = Turns().order(count, heaps)
            for places in range(count + 1):
                names = tuple(sorted(row[0] for row in rows[:places]))
                self.assertEqual(sum(row[1] for row in rows[:places]), worth(heaps, names))

    def test_the_kinds_of_all_that_is_told(self):
        for count, heaps in cases():
            told = Turns().order(count, heaps)
            self.assertIs(type(told), list)
            for row in told:
                self.assertIs(type(row), tuple)
                self.assertEqual([type(part) for part in row], [int, int])


class OfLoads(unittest.TestCase):
    def test_a_first_load(self):
        self.assertEqual(Loads().order(1, [((0,), 5)]), [(0, (1, 5))])
        self.assertEqual(Loads().order(1, [((), 4), ((0,), 1)]), [(0, (1, 1))])

    def test_loads_of_one_heap(self):
        told = [(0, (1, 4)), (1, (1, 2)), (2, (3, 4)), (3, (1, 1)), (4, (5, 4)), (5, (3, 2))]
        self.assertEqual(Loads().order(6, [((0, 1, 2, 3, 4, 5), 4)]), told)

    def test_ballots_of_unlike_loads_bear_one_together(self):
        # At first 1/5 for name 0; then 1 and 3 times 1/5, by 5 ballots.
        heaps = [((0,), 2), ((1,), 2), ((0, 1), 3)]
        self.assertEqual(Loads().order(2, heaps), [(0, (1, 5)), (1, (8, 25))])

    def test_the_load_of_the_last_one_seated_is_the_ballots(self):
        # 1/10 for name 1; 0 comes with (1 + 4/10) / 7 = 1/5; so 2 bears (1 + 6/10) / 6, none of it from 0.
        heaps = [((0,), 3), ((0, 1), 4), ((1, 2), 6)]
        self.assertEqual(Loads().order(3, heaps), [(1, (1, 10)), (0, (1, 5)), (2, (4, 15))])
        self.assertEqual(loads_behind(3, heaps, 3), [(1, 5), (1, 5), (4, 15)])

    def test_ties_go_to_the_least_number(self):
        self.assertEqual(Loads().order(3, [((0,), 1), ((1,), 3), ((2,), 3)]), [(1, (1, 3)), (2, (1, 3)), (0, (1, 1))])
        self.assertEqual(Loads().order(3, [((0,), 1), ((1, 2), 2)]), [(1, (1, 2)), (0, (1, 1)), (2, (1, 1))])

    def test_names_that_no_ballot_names_come_last_and_rising(self):
        self.assertEqual(Loads().order(4, [((2,), 7)]), [(2, (1, 7)), (0, None), (1, None), (3, None)])
        self.assertEqual(Loads().order(5, [((1, 3), 1)]),
                         [(1, (1, 1)), (3, (2, 1)), (0, None), (2, None), (4, None)])
        self.assertEqual(Loads().order(3, [((), 7)]), [(0, None), (1, None), (2, None)])

    def test_numbers_of_forty_figures(self):
        many = FORTY_FIGURES
        self.assertEqual(Loads().order(2, [((0,), many - 1), ((1,), many)]), [(1, (1, many)), (0, (1, many - 1))])
        heaps = [((0,), many), ((1,), many - 2), ((0, 1), many - 1)]
        second = (1 + Fraction(many - 1, 2 * many - 1)) / (2 * many - 3)
        told = [(0, (1, 2 * many - 1)), (1, (second.numerator, second.denominator))]
        self.assertEqual(Loads().order(2, heaps), told)

    def test_loads_too_near_for_numbers_that_are_not_exact(self):
        many = 10 ** 39
        heaps = [((0,), many), ((1,), many), ((2,), many + 1)]
        self.assertEqual([row[0] for row in Loads().order(3, heaps)], [2, 0, 1])

    def test_ballot_by_ballot(self):
        for count, heaps in cases():
            self.assertEqual(Loads().order(count, heaps), plain_loads(count, heaps))

    def test_nobody_not_yet_seated_would_have_come_with_a_lower_load(self):
        for count, heaps in cases():
            rows = [row for row in Loads().order(count, heaps) if row[1] is not None]
            for row, step in zip(rows, plain_steps(count, heaps), strict=True):
                self.assertEqual(Fraction(row[1][0], row[1][1]), min(step[2].values()))

    def test_loads_never_fall_and_are_in_lowest_terms(self):
        for count, heaps in cases():
            loads = [row[1] for row in Loads().order(count, heaps) if row[1] is not None]
            values = [Fraction(top, bottom) for top, bottom in loads]
            self.assertEqual(values, sorted(values))
            for top, bottom in loads:
                self.assertGreaterEqual(bottom, 1)
                self.assertEqual(math.gcd(top, bottom), 1)

    def test_the_kinds_of_all_that_is_told(self):
        for count, heaps in cases():
            told = Loads().order(count, heaps)
            self.assertIs(type(told), list)
            for row in told:
                self.assertEqual([type(row), type(row[0]), len(row)], [tuple, int, 2])
                if any(row[0] in names for names, many in heaps):
                    self.assertEqual([type(row[1])] + [type(part) for part in row[1]], [tuple, int, int])
                else:
                    self.assertIsNone(row[1])


class OfAllWays(unittest.TestCase):
    def test_each_name_once(self):
        for count, heaps in cases():
            for way in WAYS:
                self.assertEqual(sorted(row[0] for row in way().order(count, heaps)), list(range(count)))

    def test_the_bench_is_the_names_of_the_first_rows(self):
        for count, heaps in cases():
            for way in WAYS:
                rows = way().order(count, heaps)
                for places in range(1, count + 1):
                    told = way().bench(count, heaps, places)
                    self.assertIs(type(told), tuple)
                    self.assertEqual(told, tuple(sorted(row[0] for row in rows[:places])))

    def test_the_bench_is_rising_where_the_order_is_not(self):
        heaps = [((0,), 1), ((1,), 2), ((2,), 3)]
        for way in WAYS:
            self.assertEqual([way().bench(3, heaps, places) for places in (1, 2, 3)], [(2,), (1, 2), (0, 1, 2)])

    def test_one_place_more_is_the_bench_and_one_more(self):
        for count, heaps in cases():
            for way in WAYS:
                for places in range(1, count):
                    less_one = set(way().bench(count, heaps, places))
                    more = set(way().bench(count, heaps, places + 1))
                    self.assertLess(less_one, more)
                    self.assertEqual(len(more), places + 1)

    def test_other_numbers_of_places_are_refused(self):
        for count in range(1, 7):
            heaps = sample_heaps(count, 5)
            for way in WAYS:
                for places in (0, -1, -count, -FORTY_FIGURES, count + 1, count + 2, 100, FORTY_FIGURES):
                    with self.assertRaises(NoPlaces) as caught:
                        way().bench(count, heaps, places)
                    self.assertIs(type(caught.exception), NoPlaces)
                    self.assertIsInstance(caught.exception, BenchError)

    def test_an_object_tells_the_same_whatever_was_asked_between(self):
        for way in WAYS:
            one = way()
            heaps = sample_heaps(4, 6)
            order = one.order(4, heaps)
            bench = one.bench(4, heaps, 2)
            one.order(6, sample_heaps(6, 13))
            one.bench(2, [((1,), 5)], 1)
            with self.assertRaises(NoPlaces):
                one.bench(3, [((2,), 1)], 4)
            self.assertEqual(one.order(4, heaps), order)
            self.assertEqual(one.bench(4, heaps, 2), bench)
            self.assertEqual(way().order(4, heaps), order)

    def test_told_lists_that_are_emptied_change_nothing_told_later(self):
        for way in WAYS:
            one = way()
            heaps = sample_heaps(4, 6)
            first = one.order(4, heaps)
            kept = list(first)
            second = one.order(4, heaps)
            self.assertIsNot(first, second)
            first.clear()
            self.assertEqual(second, kept)
            self.assertEqual(one.order(4, heaps), kept)
            self.assertEqual(len(one.bench(4, heaps, 3)), 3)

    def test_the_heaps_handed_in_stay_as_they_were(self):
        for count, heaps in cases():
            before = copy.deepcopy(heaps)
            for way in WAYS:
                way().order(count, heaps)
                way().bench(count, heaps, 1)
            loads_behind(count, heaps, count)
            self.assertEqual(heaps, before)

    def test_what_is_done_with_the_heaps_behind_the_call_changes_nothing(self):
        for way in WAYS:
            heaps = [((0,), 1), ((1,), 2)]
            one = way()
            told = one.order(2, heaps)
            kept = list(told)
            heaps[0] = ((0,), 9)
            heaps.append(((0, 1), 4))
            self.assertEqual(told, kept)
            self.assertEqual([row[0] for row in one.order(2, heaps)], [0, 1])


class Behind(unittest.TestCase):
    def test_at_first_no_ballot_has_a_load(self):
        for count, heaps in cases():
            self.assertEqual(loads_behind(count, heaps, 0), [(0, 1)] * len(heaps))

    def test_step_by_step(self):
        heaps = [((), 5), ((0,), 2), ((1,), 2), ((0, 1), 3)]
        self.assertEqual(loads_behind(3, heaps, 0), [(0, 1), (0, 1), (0, 1), (0, 1)])
        self.assertEqual(loads_behind(3, heaps, 1), [(0, 1), (1, 5), (0, 1), (1, 5)])
        self.assertEqual(loads_behind(3, heaps, 2), [(0, 1), (1, 5), (8, 25), (8, 25)])
        self.assertEqual(loads_behind(3, heaps, 3), [(0, 1), (1, 5), (8, 25), (8, 25)])

    def test_ballot_by_ballot(self):
        for count, heaps in cases():
            steps = plain_steps(count, heaps)
            for places in range(1, count + 1):
                told = loads_behind(count, heaps, places)
                self.assertEqual(len(told), len(heaps))
                loads = steps[min(places, len(steps)) - 1][3] if steps else [Fraction(0)] * sum(dict(heaps).values())
                each = [Fraction(top, bottom) for (top, bottom), heap in zip(told, heaps) for ballot in range(heap[1])]
                self.assertEqual(each, loads)

    def test_what_all_ballots_bear_together_is_one_for_each_seated(self):
        for count, heaps in cases():
            rows = Loads().order(count, heaps)
            for places in range(count + 1):
                named = [row for row in rows[:places] if row[1] is not None]
                told = loads_behind(count, heaps, places)
                borne = sum(Fraction(top, bottom) * heap[1] for (top, bottom), heap in zip(told, heaps))
                self.assertEqual(borne, len(named))

    def test_the_kinds_and_the_lowest_terms(self):
        for count, heaps in cases():
            for places in range(count + 1):
                told = loads_behind(count, heaps, places)
                self.assertIs(type(told), list)
                for load in told:
                    self.assertEqual([type(load)] + [type(part) for part in load], [tuple, int, int])
                    self.assertGreaterEqual(load[1], 1)
                    self.assertEqual(math.gcd(load[0], load[1]), 1)

    def test_other_numbers_are_refused(self):
        for count in range(1, 7):
            heaps = sample_heaps(count, 5)
            for places in (-1, -2, -count - 1, -FORTY_FIGURES, count + 1, count + 2, 100, FORTY_FIGURES):
                with self.assertRaises(NoPlaces) as caught:
                    loads_behind(count, heaps, places)
                self.assertIs(type(caught.exception), NoPlaces)

    def test_told_lists_are_the_askers_own(self):
        heaps = [((0,), 2), ((1,), 2)]
        first = loads_behind(2, heaps, 1)
        second = loads_behind(2, heaps, 1)
        first.clear()
        self.assertEqual(second, [(1, 2), (0, 1)])
        self.assertEqual(loads_behind(2, heaps, 1), [(1, 2), (0, 1)])


class Shares(unittest.TestCase):
    PAIRS = [(top, bottom) for top in range(9) for bottom in range(1, 9)] + [(FORTY_FIGURES, 3), (7, FORTY_FIGURES)]

    def test_lowest_terms(self):
        for top, bottom in self.PAIRS:
            value = Fraction(top, bottom)
            self.assertEqual(lowest(top, bottom), (value.numerator, value.denominator))

    def test_added_and_less(self):
        for one in self.PAIRS:
            for two in self.PAIRS:
                value = Fraction(*one) + Fraction(*two)
                self.assertEqual(added(one, two), (value.numerator, value.denominator))
                self.assertIs(less(one, two), Fraction(*one) < Fraction(*two))


class Whole(unittest.TestCase):
    def test_in_whatever_order_and_parts_the_ballots_came(self):
        rows = [([0, 1], 3), ([2], 4), ([3, 1, 2], 2), ([], 5)]
        parts = [([2], 1), ([], 5), ([1, 0, 1], 2), ([2, 1, 3], 1), ([2, 2], 3), ([0], 0), ([0, 1], 1), ([3, 2, 1], 1)]
        whole = heaps_of(4, rows)
        for other in (heaps_of(4, rows[::-1]), heaps_of(4, parts), heaps_of(4, parts[::-1])):
            for way in WAYS:
                self.assertEqual(way().order(4, other), way().order(4, whole))
                self.assertEqual(way().bench(4, other, 2), way().bench(4, whole, 2))
            self.assertEqual(loads_behind(4, other, 3), loads_behind(4, whole, 3))


if __name__ == "__main__":
    unittest.main()
