"""Looks at a bench: whether some heaps of ballots are left out, and a help."""

from fairbench.heaps import ballots, rank
from fairbench.worth import best_exchange, in_common


def left_out(count, heaps, bench):
    for names in sets_to_ask(count):
        if are_enough(with_too_few(heaps, bench, names), heaps, bench, names):
            return names
    return None


def left_out_together(count, heaps, bench):
    for names in sets_to_ask(count):
        for few in largest_few(bench, names):
            if are_enough(with_none_but(heaps, bench, names, few), heaps, bench, names):
                return names
    return None


def help_for(count, heaps, bench):
    names = left_out(count, heaps, bench)
    if names is None:
        return None
    # Some exchange gains. One of these names who is not seated would add at
    # least the k-th part of all ballots to the worth (k places, each ballot
    # as 1); beside that one all k who are seated count for less than all
    # ballots, so one of them counts for less than the k-th part.
    return (names, best_exchange(count, heaps, bench))


def are_enough(some, heaps, bench, names):
    return len(bench) * ballots(some) >= len(names) * ballots(heaps)


def with_too_few(heaps, bench, names):
    agreeing = heaps_naming_all(heaps, names)
    return [heap for heap in agreeing if in_common(heap[0], bench) < len(names)]


def with_none_but(heaps, bench, names, few):
    others = [name for name in bench if name not in few]
    return [heap for heap in heaps_naming_all(heaps, names) if in_common(heap[0], others) == 0]


def heaps_naming_all(heaps, names):
    return [heap for heap in heaps if in_common(heap[0], names) == len(names)]


def largest_few(bench, names):
    # With more names among the few no ballot is lost, so of all sets of
    # fewer seated ones than names only the largest need to be asked.
    size = min(len(bench), len(names) - 1)
    return [few for few in sets_of(bench) if len(few) == size]


def sets_to_ask(count):
    # The empty set comes first in the order, and it is never told.
    return sets_of(tuple(range(count)))[1:]


def sets_of(names):
    told = [()]
    for name in names:
        told = told + [some + (name,) for some in told]
    return sorted(told, key=rank)
