"""Three ways to seat the names one by one: by most, by turns and by loads."""

from fairbench.errors import NoPlaces
from fairbench.shares import added, less, lowest
from fairbench.worth import worth


class Way:
    def order(self, count, heaps):
        raise NotImplementedError("each way has an order of its own")

    def seated(self, count, heaps, places):
        if places < 1 or places > count:
            raise NoPlaces("the number of places is not from 1 to the count of names")
        return names_of(self.order(count, heaps)[:places])

    def bench(self, count, heaps, places):
        return tuple(sorted(self.seated(count, heaps, places)))


class Most(Way):
    def order(self, count, heaps):
        rows = [(name, ballots_naming(heaps, name)) for name in range(count)]
        return sorted(rows, key=lambda row: (-row[1], row[0]))


class Turns(Way):
    def order(self, count, heaps):
        rows = []
        while len(rows) < count:
            rows.append(next_turn(count, heaps, rows))
        return rows


class Loads(Way):
    def order(self, count, heaps):
        rows = []
        while len(rows) < count:
            rows.append(next_load(count, heaps, rows))
        return rows


def loads_behind(count, heaps, places):
    if places < 0 or places > count:
        raise NoPlaces("the number of rows is not from 0 to the count of names")
    rows = Loads().order(count, heaps)[:places]
    return [load_of_heap(names, rows) for names, many in heaps]


def ballots_naming(heaps, name):
    return sum([many for names, many in heaps if name in names])


def names_of(rows):
    return [row[0] for row in rows]


def unseated(count, rows):
    return [name for name in range(count) if name not in names_of(rows)]


def next_turn(count, heaps, rows):
    before = worth(heaps, names_of(rows))
    best = None
    for name in unseated(count, rows):
        growth = worth(heaps, names_of(rows) + [name]) - before
        # Only more takes over, so of several the least number stays.
        if best is None or growth > best[1]:
            best = (name, growth)
    return best


def next_load(count, heaps, rows):
    best = None
    for name in unseated(count, rows):
        load = load_of_name(heaps, rows, name)
        # Only a lesser load takes over, so of several the least number stays.
        if best is None or comes_ahead(load, best[1]):
            best = (name, load)
    return best


def comes_ahead(one, two):
    # None is the load of a name that no ballot names: such names come last.
    if one is None or two is None:
        return one is not None
    return less(one, two)


def load_of_name(heaps, rows, name):
    many_in_all = ballots_naming(heaps, name)
    if many_in_all == 0:
        return None
    together = (1, 1)
    for names, many in heaps:
        if name in names:
            load = load_of_heap(names, rows)
            together = added(together, (many * load[0], load[1]))
    return lowest(together[0], many_in_all * together[1])


def load_of_heap(names, rows):
    # Each one seated hands its load to all ballots that name it, so a ballot
    # has the load of the last one whom it names.
    load = (0, 1)
    for name, brought in rows:
        if name in names:
            load = brought
    return load
