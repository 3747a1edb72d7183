"""Points 20 and 21: the roll, ballots by their texts, what is told of the box, and the refusals in their order."""

import inspect
import itertools
import unittest

from fairbench.box import Box
from fairbench.errors import BenchError, NoBallot, NoHeap, NoPlaces, NoRoll, NoWay
from fairbench.heaps import heaps_of
from fairbench.ways import Loads, Most, Turns
from samples import FORTY_FIGURES

ROLL = ["ann", "bob", "cy"]
SIX = ["f", "e", "d", "c", "b", "a"]
WAYS = {"most": Most, "turns": Turns, "loads": Loads}


def signs_out_of_the_roll():
    signs = [chr(code) for code in range(32, 127) if not "a" <= chr(code) <= "z"]
    return signs + ["\n", "\t", "\u00e9", "\u00df", "\u0430"]


class Refusals(unittest.TestCase):
    def refused(self, kind, call, *arguments):
        with self.assertRaises(kind) as caught:
            call(*arguments)
        self.assertIs(type(caught.exception), kind, arguments)
        self.assertIsInstance(caught.exception, BenchError)


class Interface(unittest.TestCase):
    def test_the_names_of_the_arguments(self):
        def arguments(call):
            return [(one.name, one.default) for one in inspect.signature(call).parameters.values()]

        none = inspect.Parameter.empty
        box = Box(ROLL)
        self.assertEqual(arguments(Box), [("words", none)])
        self.assertEqual(arguments(box.put), [("text", none), ("many", 1)])
        self.assertEqual(arguments(box.take), [("text", none), ("many", 1)])
        self.assertEqual(arguments(box.count), [])
        self.assertEqual(arguments(box.heaps), [])
        self.assertEqual(arguments(box.bench), [("way", none), ("places", none)])

    def test_arguments_may_be_handed_in_by_name(self):
        box = Box(words=ROLL)
        self.assertIsNone(box.put(text="bob", many=3))
        self.assertIsNone(box.take(text="bob", many=2))
        self.assertEqual(box.heaps(), [((1,), 1)])
        self.assertEqual(box.bench(way="most", places=1), ["bob"])


class Roll(Refusals):
    def test_no_words_and_seven_words(self):
        self.refused(NoRoll, Box, [])
        self.refused(NoRoll, Box, ["a", "b", "c", "d", "e", "f", "g"])
        self.refused(NoRoll, Box, [sign * 3 for sign in "abcdefghijklmnopqrst"])

    def test_one_to_six_words(self):
        for many in range(1, 7):
            box = Box(SIX[:many])
            box.put(" ".join(SIX[:many]))
            self.assertEqual(box.heaps(), [(tuple(range(many)), 1)])

    def test_a_word_twice(self):
        self.refused(NoRoll, Box, ["ann", "ann"])
        self.refused(NoRoll, Box, ["ann", "bob", "ann"])
        self.refused(NoRoll, Box, ["cy", "ann", "bob", "bob"])

    def test_words_with_the_same_beginning_are_unlike(self):
        box = Box(["a", "aa", "aaa", "ab"])
        box.put("aa")
        box.put("aaa a")
        self.assertEqual(box.heaps(), [((1,), 1), ((0, 2), 1)])

    def test_the_length_of_a_word(self):
        self.refused(NoRoll, Box, ["ann", "abcdefghijklm"])
        self.refused(NoRoll, Box, ["z" * 200])
        self.refused(NoRoll, Box, [""])
        self.refused(NoRoll, Box, ["ann", "", "cy"])
        box = Box(["abcdefghijkl", "nopqrstuvwxy", "z", "m"])
        box.put("nopqrstuvwxy z")
        box.put("m abcdefghijkl")
        self.assertEqual(box.heaps(), [((0, 3), 1), ((1, 2), 1)])

    def test_each_letter(self):
        for start in range(0, 26, 6):
            letters = list("abcdefghijklmnopqrstuvwxyz"[start:start + 6])
            box = Box(letters)
            box.put(letters[-1])
            self.assertEqual(box.heaps(), [((len(letters) - 1,), 1)])

    def test_any_other_sign_at_any_place(self):
        for sign in signs_out_of_the_roll():
            for word in (sign, sign + "nn", "a" + sign + "n", "an" + sign):
                self.refused(NoRoll, Box, [word])
                self.refused(NoRoll, Box, ["ann", word, "cy"])
                self.refused(NoRoll, Box, ["ann", "bob", "cy", "di", "ed", word])

    def test_words_that_are_no_texts(self):
        self.refused(NoRoll, Box, [3])
        self.refused(NoRoll, Box, ["ann", None])
        self.refused(NoRoll, Box, ["ann", ["b", "c"]])

    def test_the_list_handed_in_may_be_changed_later(self):
        words = ["ann", "bob", "cy"]
        box = Box(words)
        box.put("bob", 2)
        words[1] = "dan"
        words.append("eve")
        box.put("bob ann")
        self.assertEqual(box.heaps(), [((1,), 2), ((0, 1), 1)])
        self.assertEqual(box.bench("most", 3), ["bob", "ann", "cy"])
        self.refused(NoBallot, box.put, "dan")
        self.refused(NoBallot, box.put, "eve")
        words.clear()
        self.assertEqual(box.bench("loads", 1), ["bob"])

    def test_the_list_handed_in_stays_as_it_was(self):
        for words in (["cy", "bob", "ann"], ["cy", "cy"], ["Cy", "ann"]):
            before = list(words)
            try:
                Box(words).put("ann cy ann")
            except NoRoll:
                pass
            self.assertEqual(words, before)


class Ballots(Refusals):
    def test_words_in_any_order(self):
        for walk in itertools.permutations(ROLL):
            box = Box(ROLL)
            box.put(" ".join(walk))
            self.assertEqual(box.heaps(), [((0, 1, 2), 1)])

    def test_words_more_than_once(self):
        box = Box(ROLL)
        box.put("cy ann cy cy ann")
        box.put("ann cy", 2)
        box.put("bob bob")
        self.assertEqual(box.heaps(), [((1,), 1), ((0, 2), 3)])

    def test_the_empty_text(self):
        box = Box(ROLL)
        box.put("")
        box.put("", 4)
        self.assertEqual(box.heaps(), [((), 5)])
        self.assertEqual(box.count(), 5)
        box.take("", 5)
        self.assertEqual(box.heaps(), [])

    def test_a_long_text(self):
        box = Box(ROLL)
        box.put(" ".join(["bob", "ann"] * 60))
        self.assertEqual(box.heaps(), [((0, 1), 1)])

    def test_one_ballot_where_no_number_is_told(self):
        box = Box(ROLL)
        box.put("ann")
        self.assertEqual(box.count(), 1)
        box.put("ann", 3)
        box.take("ann")
        self.assertEqual(box.count(), 3)

    def test_nothing_is_answered(self):
        box = Box(ROLL)
        self.assertIsNone(box.put("ann", 2))
        self.assertIsNone(box.take("ann"))

    def test_texts_that_are_no_ballots(self):
        wrong = [" ", "  ", "ann  bob", " ann", "ann ", " ann bob", "ann bob ", "ann   bob", "an", "nn", "a", "anna",
                 "xann", "ann bo", "ann bobb", "annbob", "Ann", "aNn", "ANN", "ann BOB", "dan", "ann dan", "dan ann"]
        wrong += ["ann" + sign + "bob" for sign in signs_out_of_the_roll() if sign != " "]
        wrong += ["ann" + sign for sign in signs_out_of_the_roll()] + [sign + "ann" for sign in signs_out_of_the_roll()]
        wrong += ["ann " + sign + " bob" for sign in signs_out_of_the_roll()]
        box = Box(ROLL)
        box.put("ann bob", 5)
        for text in wrong:
            for call in (box.put, box.take):
                self.refused(NoBallot, call, text)
                for many in (1, 0, -1, -FORTY_FIGURES, 6, FORTY_FIGURES):
                    self.refused(NoBallot, call, text, many)
        self.assertEqual(box.heaps(), [((0, 1), 5)])

    def test_numbers_below_one(self):
        box = Box(ROLL)
        box.put("ann bob", 5)
        for many in (0, -1, -5, -FORTY_FIGURES, True, False):
            for text in ("", "ann", "ann bob", "cy cy"):
                self.refused(NoHeap, box.put, text, many)
                self.refused(NoHeap, box.take, text, many)
        self.assertEqual(box.heaps(), [((0, 1), 5)])
        self.assertEqual(box.count(), 5)

    def test_numbers_of_forty_figures(self):
        box = Box(ROLL)
        box.put("ann", FORTY_FIGURES)
        box.put("ann", FORTY_FIGURES)
        self.assertEqual(box.count(), 2 * FORTY_FIGURES)
        self.refused(NoHeap, box.take, "ann", 2 * FORTY_FIGURES + 1)
        box.take("ann", 2 * FORTY_FIGURES - 1)
        self.assertEqual(box.heaps(), [((0,), 1)])


class Taken(Refusals):
    def test_like_ones_of_the_same_words(self):
        box = Box(ROLL)
        box.put("ann bob", 3)
        box.put("ann", 2)
        box.take("bob ann bob", 2)
        self.assertEqual(box.heaps(), [((0,), 2), ((0, 1), 1)])

    def test_all_that_lie_there(self):
        box = Box(ROLL)
        box.put("ann bob", 3)
        box.put("cy")
        box.take("ann bob", 3)
        self.assertEqual(box.heaps(), [((2,), 1)])
        self.refused(NoHeap, box.take, "ann bob")
        box.put("ann bob")
        self.assertEqual(box.heaps(), [((2,), 1), ((0, 1), 1)])

    def test_more_than_lie_there_takes_nothing(self):
        box = Box(ROLL)
        box.put("ann bob", 3)
        box.put("ann", 9)
        box.put("", 9)
        more = (("ann bob", 4), ("bob ann", FORTY_FIGURES), ("bob", 1), ("ann cy", 1), ("ann", 10), ("", 10))
        for text, many in more:
            self.refused(NoHeap, box.take, text, many)
            self.assertEqual(box.heaps(), [((), 9), ((0,), 9), ((0, 1), 3)])
            self.assertEqual(box.count(), 21)

    def test_out_of_an_empty_box(self):
        box = Box(ROLL)
        for text in ("", "ann", "ann bob cy"):
            self.refused(NoHeap, box.take, text)
        self.assertEqual(box.count(), 0)
        self.assertEqual(box.heaps(), [])


class Told(Refusals):
    def test_an_empty_box(self):
        box = Box(ROLL)
        self.assertEqual(box.count(), 0)
        self.assertEqual(box.heaps(), [])
        box.put("ann")
        box.take("ann")
        self.assertEqual(box.count(), 0)
        self.assertEqual(box.heaps(), [])

    def test_count_and_heaps_behind_each_step(self):
        box = Box(ROLL)
        steps = [(box.put, "cy bob", 2), (box.put, "", 1), (box.put, "ann", 4), (box.take, "bob cy", 1),
                 (box.put, "bob cy bob", 3), (box.take, "", 1), (box.take, "ann ann", 4), (box.take, "cy bob", 4)]
        lying = {}
        for call, text, many in steps:
            call(text, many)
            names = tuple(sorted({ROLL.index(word) for word in text.split()}))
            lying[names] = lying.get(names, 0) + (many if call == box.put else -many)
            rows = [(list(names), left) for names, left in lying.items()]
            total = sum(lying.values())
            self.assertEqual(box.count(), total)
            self.assertEqual(box.heaps(), heaps_of(3, rows) if total else [])

    def test_heaps_are_in_order_whatever_was_put_first(self):
        box = Box(ROLL)
        for text in ("cy bob ann", "cy bob", "cy", "ann cy", "", "bob", "ann"):
            box.put(text)
        names = [(), (0,), (1,), (2,), (0, 2), (1, 2), (0, 1, 2)]
        self.assertEqual(box.heaps(), [(one, 1) for one in names])

    def test_the_places_of_the_roll_are_the_names(self):
        box = Box(["zoe", "max", "ann"])
        box.put("ann zoe", 2)
        self.assertEqual(box.heaps(), [((0, 2), 2)])

    def test_the_kinds_of_what_is_told(self):
        box = Box(ROLL)
        self.assertIs(type(box.count()), int)
        self.assertIs(type(box.heaps()), list)
        box.put("ann cy", 2)
        self.assertIs(type(box.count()), int)
        for heap in box.heaps():
            self.assertEqual([type(heap), type(heap[0]), type(heap[1])], [tuple, tuple, int])
        self.assertEqual([type(word) for word in box.bench("most", 2)], [str, str])

    def test_told_lists_are_the_askers_own(self):
        box = Box(ROLL)
        box.heaps().append("more")
        self.assertEqual(box.heaps(), [])
        box.put("ann cy", 2)
        box.put("bob")
        told = box.heaps()
        box.put("bob", 5)
        self.assertEqual(told, [((1,), 1), ((0, 2), 2)])
        told.clear()
        self.assertEqual(box.heaps(), [((1,), 6), ((0, 2), 2)])
        seated = box.bench("most", 2)
        seated.clear()
        self.assertEqual(box.bench("most", 2), ["bob", "ann"])
        self.assertEqual(box.count(), 8)

    def test_two_boxes_know_nothing_of_each_other(self):
        one = Box(ROLL)
        two = Box(ROLL)
        one.put("ann", 3)
        self.assertEqual(two.count(), 0)
        self.assertEqual(two.heaps(), [])
        two.put("bob", 2)
        one.take("ann", 1)
        self.assertEqual(one.heaps(), [((0,), 2)])
        self.assertEqual(two.heaps(), [((1,), 2)])
        self.assertEqual(Box(["x", "y"]).heaps(), [])
        self.assertEqual(one.bench("most", 1), ["ann"])
        self.assertEqual(two.bench("most", 1), ["bob"])

    def test_in_whatever_order_and_parts_they_were_put(self):
        one = Box(ROLL)
        two = Box(ROLL)
        for text, many in (("ann bob", 3), ("cy", 2), ("", 1)):
            one.put(text, many)
        for text, many in (("cy", 1), ("", 1), ("bob ann ann", 2), ("cy cy", 3), ("ann bob", 1), ("bob", 1)):
            two.put(text, many)
        two.take("cy", 2)
        two.take("bob")
        self.assertEqual(one.heaps(), two.heaps())
        self.assertEqual(one.count(), two.count())
        for way in WAYS:
            self.assertEqual(one.bench(way, 3), two.bench(way, 3))


class Bench(Refusals):
    def filled(self):
        """Each way has an order of its own here, and none is that of the roll."""
        box = Box(["ann", "bob", "cy", "di"])
        for text, many in (("bob", 3), ("ann cy", 5), ("cy di", 2), ("di", 2)):
            box.put(text, many)
        return box

    def test_the_words_in_the_order_in_which_they_are_seated(self):
        box = self.filled()
        # 7, 5, 4 and 3 ballots.
        self.assertEqual(box.bench("most", 4), ["cy", "ann", "di", "bob"])
        # 420; then 180 for bob and for di, 150 for ann.
        self.assertEqual(box.bench("turns", 4), ["cy", "bob", "di", "ann"])
        # 1/7; then 9/28, 1/3 and 12/35.
        self.assertEqual(box.bench("loads", 4), ["cy", "di", "bob", "ann"])

    def test_each_number_of_places(self):
        box = self.filled()
        for text, way in WAYS.items():
            rows = way().order(4, box.heaps())
            for places in range(1, 5):
                told = [["ann", "bob", "cy", "di"][row[0]] for row in rows[:places]]
                self.assertEqual(box.bench(text, places), told)

    def test_words_that_no_ballot_has(self):
        box = Box(ROLL)
        box.put("cy")
        for way in WAYS:
            self.assertEqual(box.bench(way, 3), ["cy", "ann", "bob"])

    def test_ballots_without_words_alone(self):
        box = Box(ROLL)
        box.put("")
        for way in WAYS:
            self.assertEqual(box.bench(way, 2), ["ann", "bob"])

    def test_other_ways(self):
        for box in (Box(ROLL), self.filled()):
            for way in ("", "mosts", "mos", "Most", "MOST", "Turns", " most", "most ", "load", "loads\n", "most turns",
                        "none", "turn", "quotients", "ann"):
                for places in (1, 2, 0, -1, 9):
                    self.refused(NoWay, box.bench, way, places)

    def test_a_box_without_ballots(self):
        emptied = Box(ROLL)
        emptied.put("ann", 2)
        emptied.take("ann", 2)
        for box in (Box(ROLL), emptied):
            for way in WAYS:
                for places in (1, 3, 0, -1, 4, FORTY_FIGURES):
                    self.refused(NoHeap, box.bench, way, places)

    def test_other_numbers_of_places(self):
        box = self.filled()
        for way in WAYS:
            for places in (0, -1, -4, -FORTY_FIGURES, 5, 6, 7, FORTY_FIGURES):
                self.refused(NoPlaces, box.bench, way, places)

    def test_asking_changes_nothing_in_the_box(self):
        box = self.filled()
        heaps = box.heaps()
        for way in WAYS:
            box.bench(way, 2)
            self.refused(NoPlaces, box.bench, way, 0)
        self.assertEqual(box.heaps(), heaps)
        self.assertEqual(box.count(), 12)


if __name__ == "__main__":
    unittest.main()
