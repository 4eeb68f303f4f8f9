"""Numbers: exact fractions, each a tuple (top, bottom) in lowest terms with the bottom from 1 on."""

from neverbelow.errors import NoNumber

NOUGHT = (0, 1)
ONE = (1, 1)


def greatest_divisor(one, other):
    while other != 0:
        rest = one % other
        one = other
        other = rest
    return abs(one)


def number(top, bottom):
    if bottom == 0:
        raise NoNumber("a number has no bottom 0")
    divisor = greatest_divisor(top, bottom)
    # A divisor with the bottom's sign leaves the bottom above nought.
    if bottom < 0:
        divisor = -divisor
    return (top // divisor, bottom // divisor)


def plus(one, other):
    return number(one[0] * other[1] + other[0] * one[1], one[1] * other[1])


def minus(one, other):
    return number(one[0] * other[1] - other[0] * one[1], one[1] * other[1])


def times(one, other):
    return number(one[0] * other[0], one[1] * other[1])


def over(one, other):
    return number(one[0] * other[1], one[1] * other[0])


def less(one, other):
    return one[0] * other[1] < other[0] * one[1]


def sign(one):
    if one[0] > 0:
        return 1
    if one[0] < 0:
        return -1
    return 0
