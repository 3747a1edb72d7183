"""Heaps of like ballots: how they are made, ordered and counted."""

from fairbench.errors import NoCount, NoHeap, NoName

MOST_NAMES = 6


def heaps_of(count, rows):
    check_count(count)
    # All rows are looked at for names before any is looked at for ballots:
    # a wrong name in the last row goes ahead of a wrong number in the first.
    check_names(count, rows)
    check_ballots(rows)
    together = put_together(rows)
    return [(names, together[names]) for names in sorted(together, key=rank)]


def earlier(one, two):
    return rank(one) < rank(two)


def ballots(heaps):
    return sum([heap[1] for heap in heaps])


def rank(names):
    return (len(names), names)


def check_count(count):
    if count < 1 or count > MOST_NAMES:
        raise NoCount("the count of names is not from one to six")


def check_names(count, rows):
    for names, many in rows:
        for name in names:
            if name < 0 or name >= count:
                raise NoName("a row has a number that is no name's")


def check_ballots(rows):
    # Each row is looked at by itself, since another row of the same names
    # could make up for a number below 0.
    for names, many in rows:
        if many < 0:
            raise NoHeap("a row has fewer ballots than none")
    if sum([many for names, many in rows]) == 0:
        raise NoHeap("there are no ballots at all")


def put_together(rows):
    together = {}
    for row, many in rows:
        if many > 0:
            names = tuple(sorted(set(row)))
            together[names] = together.get(names, 0) + many
    return together
