"""Exact fractions: tuples (top, bottom) in lowest terms, bottom from 1 on."""

from shortpurse.errors import NoFraction


def fraction(top, bottom):
    if not is_whole(top) or not is_whole(bottom):
        raise NoFraction("a fraction is made of two whole numbers")
    if bottom == 0:
        raise NoFraction("a fraction with the bottom 0")
    return lowest(top, bottom)


def plus(one, two):
    return lowest(one[0] * two[1] + two[0] * one[1], one[1] * two[1])


def minus(one, two):
    return lowest(one[0] * two[1] - two[0] * one[1], one[1] * two[1])


def times(one, two):
    return lowest(one[0] * two[0], one[1] * two[1])


def over(one, two):
    if two[0] == 0:
        raise NoFraction("a quotient by 0")
    return lowest(one[0] * two[1], one[1] * two[0])


def before(one, two):
    return one[0] * two[1] < two[0] * one[1]


def is_whole(number):
    # True and False are ints to Python, but no whole numbers here.
    return isinstance(number, int) and not isinstance(number, bool)


def lowest(top, bottom):
    divisor = greatest_divisor(abs(top), abs(bottom))
    if bottom < 0:
        # The sign of the whole fraction goes to the top.
        divisor = -divisor
    return (top // divisor, bottom // divisor)


def greatest_divisor(one, two):
    while two != 0:
        rest = one % two
        one = two
        two = rest
    return one
