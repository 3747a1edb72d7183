"""A box: ballots put in and taken out by their texts, with the words of a roll."""

from fairbench.errors import NoBallot, NoHeap, NoRoll, NoWay
from fairbench.heaps import MOST_NAMES, heaps_of
from fairbench.ways import Loads, Most, Turns

LETTERS = "abcdefghijklmnopqrstuvwxyz"
MOST_SIGNS = 12


class Box:
    def __init__(self, words):
        check_roll(words)
        self.words = list(words)
        self.lying = {}

    def put(self, text, many=1):
        names = names_in(self.words, text)
        check_many(many)
        self.lying[names] = self.lying.get(names, 0) + many

    def take(self, text, many=1):
        names = names_in(self.words, text)
        check_many(many)
        left = self.lying.get(names, 0) - many
        if left < 0:
            raise NoHeap("fewer such ballots lie in the box")
        self.lying[names] = left

    def count(self):
        return sum(self.lying.values())

    def heaps(self):
        # Rows without any ballots would be refused.
        if self.count() == 0:
            return []
        return heaps_of(len(self.words), [(list(names), many) for names, many in self.lying.items()])

    def bench(self, way, places):
        chosen = way_called(way)
        if self.count() == 0:
            raise NoHeap("no ballots lie in the box")
        seated = chosen.seated(len(self.words), self.heaps(), places)
        return [self.words[name] for name in seated]


def check_roll(words):
    if len(words) < 1 or len(words) > MOST_NAMES:
        raise NoRoll("a roll has one to six words")
    for word in words:
        if not is_word(word):
            raise NoRoll("a word has one to twelve signs from a to z")
    if len(set(words)) < len(words):
        raise NoRoll("a word stands twice in the roll")


def is_word(word):
    if not isinstance(word, str) or len(word) < 1 or len(word) > MOST_SIGNS:
        return False
    return all([sign in LETTERS for sign in word])


def names_in(words, text):
    names = []
    if text != "":
        for word in text.split(" "):
            if word not in words:
                raise NoBallot("a ballot has words of the roll with one blank between them")
            names.append(words.index(word))
    return tuple(sorted(set(names)))


def check_many(many):
    if not isinstance(many, int) or isinstance(many, bool) or many < 1:
        raise NoHeap("the number of ballots is not a whole number from 1 on")


def way_called(text):
    if text == "most":
        return Most()
    if text == "turns":
        return Turns()
    if text == "loads":
        return Loads()
    raise NoWay("a way is called most, turns or loads")
