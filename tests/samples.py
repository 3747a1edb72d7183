"""What several test files ask of: sets of names, and heaps that look mixed and are the same in each run."""

import itertools

from fairbench.heaps import heaps_of

FORTY_FIGURES = 10 ** 40 - 1


def sets_of(count):
    """All sets of names, from the empty one on, in the order of point 6."""
    return [names for length in range(count + 1) for names in itertools.combinations(range(count), length)]


def benches_of(count):
    return sets_of(count)[1:]


def sample_heaps(count, seed):
    """Low numbers, for odd seeds, make many things equal."""
    rows = []
    state = seed * 7919 + count
    for step in range(1 + seed % 7):
        state = (state * 1103515245 + 12345) % 2 ** 31
        names = [name for name in range(count) if state >> (8 + name) & 1]
        rows.append((names, 1 + (state >> 20) % (3 if seed % 2 else 40)))
    return heaps_of(count, rows)


def sample_lists(count, seed):
    """Heaps with no name in two of them; some names may stand in none, some ballots may name nobody."""
    state = seed * 6271 + count
    parts = [[] for heap in range(1 + seed % 4)]
    for name in range(count):
        state = (state * 1103515245 + 12345) % 2 ** 31
        place = (state >> 12) % (len(parts) + 1)
        if place < len(parts):
            parts[place].append(name)
    rows = []
    for names in parts:
        state = (state * 1103515245 + 12345) % 2 ** 31
        rows.append((names, 1 + (state >> 16) % (6 if seed % 2 else 60)))
    return heaps_of(count, rows)


def cases():
    for count in range(1, 7):
        for seed in range(24):
            yield count, sample_heaps(count, seed)


def list_cases():
    for count in range(1, 7):
        for seed in range(40):
            yield count, sample_lists(count, seed)
