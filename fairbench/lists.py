"""Heaps that are lists, with no name in two of them, and their order by quotients."""

from fairbench.errors import NoLists
from fairbench.shares import less
from fairbench.worth import in_common


def by_quotients(count, heaps):
    check_lists(heaps)
    order = []
    while len(order) < count:
        order.append(next_name(count, heaps, order))
    return order


def check_lists(heaps):
    seen = []
    for names, many in heaps:
        if in_common(names, seen) > 0:
            raise NoLists("a name stands in two heaps")
        seen = seen + list(names)


def next_name(count, heaps, seated):
    unseated = [name for name in range(count) if name not in seated]
    best = unseated[0]
    for name in unseated:
        # Only a greater quotient takes over, so of several the least number stays.
        if less(quotient(heaps, seated, best), quotient(heaps, seated, name)):
            best = name
    return best


def quotient(heaps, seated, name):
    for names, many in heaps:
        if name in names:
            return (many, in_common(names, seated) + 1)
    # Below each heap's quotient: the names of no heap come last.
    return (0, 1)
