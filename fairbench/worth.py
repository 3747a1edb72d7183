"""The worth of a bench to the ballots, and how single exchanges mend it."""

# The worth to one ballot, by how many it names: 60 times 1 + 1/2 + 1/3 and
# so on, which is whole for up to six.
SIXTIETHS = (0, 60, 90, 110, 125, 137, 147)


def worth(heaps, names):
    return sum([many * SIXTIETHS[in_common(named, names)] for named, many in heaps])


def exchanges(count, heaps, bench):
    before = worth(heaps, bench)
    told = []
    for leaving in bench:
        for coming in range(count):
            if coming not in bench:
                after = worth(heaps, exchanged(bench, leaving, coming))
                told.append((leaving, coming, after - before))
    return told


def mended(count, heaps, bench):
    made = []
    left = bench
    best = best_exchange(count, heaps, left)
    # This ends: each exchange makes the bench worth more, so no bench comes
    # twice, and there are only so many.
    while best is not None:
        made.append(best)
        left = exchanged(left, best[0], best[1])
        best = best_exchange(count, heaps, left)
    return (made, left)


def in_common(one, two):
    return len([name for name in one if name in two])


def exchanged(bench, leaving, coming):
    staying = [name for name in bench if name != leaving]
    return tuple(sorted(staying + [coming]))


def best_exchange(count, heaps, bench):
    best = None
    most = 0
    for exchange in exchanges(count, heaps, bench):
        # Only a greater gain takes over, so of several the first one stays.
        if exchange[2] > most:
            best = exchange
            most = exchange[2]
    return best
