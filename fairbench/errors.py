"""The refusals, each with a class of its own."""


class BenchError(ValueError):
    pass


class NoCount(BenchError):
    pass


class NoName(BenchError):
    pass


class NoHeap(BenchError):
    pass


class NoPlaces(BenchError):
    pass


class NoLists(BenchError):
    pass


class NoRoll(BenchError):
    pass


class NoBallot(BenchError):
    pass


class NoWay(BenchError):
    pass
