"""Exact parts of a whole: tuples (top, bottom), bottom from 1 on."""


def lowest(top, bottom):
    divisor = common_divisor(top, bottom)
    return (top // divisor, bottom // divisor)


def added(one, two):
    return lowest(one[0] * two[1] + two[0] * one[1], one[1] * two[1])


def less(one, two):
    return one[0] * two[1] < two[0] * one[1]


def common_divisor(one, two):
    while two > 0:
        rest = one % two
        one = two
        two = rest
    return one
