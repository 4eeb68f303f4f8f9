"""Curves: sums of powers of one unknown, each a tuple of numbers from the lowest power on."""

from neverbelow.errors import NoCurve, NoNumber, TooGreat
from neverbelow.numbers import NOUGHT, ONE, minus, number, over, plus, sign, times

MOST_NUMBERS = 13


def curve_of(numbers):
    size = len(numbers)
    while size > 0 and sign(numbers[size - 1]) == 0:
        size = size - 1
    if size > MOST_NUMBERS:
        raise TooGreat("a curve has at most thirteen numbers")
    return tuple(numbers[:size])


def number_at(curve, place):
    if place < len(curve):
        return curve[place]
    return NOUGHT


def worth(curve, x):
    found = NOUGHT
    for one in reversed(curve):
        found = plus(times(found, x), one)
    return found


def added(one, other):
    size = max(len(one), len(other))
    return curve_of([plus(number_at(one, place), number_at(other, place)) for place in range(size)])


def taken(one, other):
    size = max(len(one), len(other))
    return curve_of([minus(number_at(one, place), number_at(other, place)) for place in range(size)])


def multiplied(one, other):
    if len(one) == 0 or len(other) == 0:
        return ()
    found = [NOUGHT] * (len(one) + len(other) - 1)
    for place in range(len(one)):
        for step in range(len(other)):
            product = times(one[place], other[step])
            found[place + step] = plus(found[place + step], product)
    return curve_of(found)


def scaled(curve, k):
    return curve_of([times(one, k) for one in curve])


def slope(curve):
    return tuple([times(curve[place], number(place, 1)) for place in range(1, len(curve))])


def moved(curve, c):
    # Each round divides by the unknown plus c once more and leaves the rest, one number of
    # the moved curve, in its place; the last number never changes, so it stays a curve.
    found = list(curve)
    for done in range(len(curve)):
        for place in range(len(curve) - 2, done - 1, -1):
            found[place] = minus(found[place], times(c, found[place + 1]))
    return tuple(found)


def stretched(curve, k):
    # Asked ahead, as no quotient by k is come to where the curve is () or of degree 0.
    if sign(k) == 0:
        raise NoNumber("no curve is stretched by nought")
    found = []
    power = ONE
    for one in curve:
        found.append(over(one, power))
        power = times(power, k)
    return tuple(found)


def divided(curve, by):
    if len(by) == 0:
        raise NoCurve("no curve is divided by the curve that is nought")
    rest = list(curve)
    quotient = []
    for place in range(len(curve) - len(by), -1, -1):
        factor = over(rest[place + len(by) - 1], by[len(by) - 1])
        quotient.append(factor)
        for step in range(len(by)):
            rest[place + step] = minus(rest[place + step], times(factor, by[step]))
    return (curve_of(list(reversed(quotient))), curve_of(rest))
