"""Squares that a curve is the sum of, and what is told of a curve on all numbers."""

from neverbelow.common import split
from neverbelow.curves import added, curve_of, multiplied, scaled, slope, taken
from neverbelow.errors import NoCurve, TooGreat
from neverbelow.maps import halfway
from neverbelow.numbers import NOUGHT, ONE, less, minus, over, plus, sign, times
from neverbelow.verdicts import ABOVE, BELOW, TOUCHES, place_rows, verdict
from neverbelow.wholes import sign_at, tops_of

MOST_SQUARED = 4
TWO = (2, 1)
FOUR = (4, 1)


def check_squared(curve):
    if len(curve) - 1 > MOST_SQUARED:
        raise TooGreat("a curve that is looked at on all numbers has a degree of at most four")


def bound(curve):
    if len(curve) == 0:
        raise NoCurve("the curve that is nought has no bound")
    greatest = NOUGHT
    for one in curve[:-1]:
        share = over(one, curve[-1])
        share = (abs(share[0]), share[1])
        if less(greatest, share):
            greatest = share
    return plus(ONE, greatest)


def on_all(curve):
    # No place where the curve is nought lies at the bound or beyond it, so the signs there are those
    # that it has ever farther out: what is told of the stretch is true of all numbers.
    far = bound(curve)
    return verdict(curve, minus(NOUGHT, far), far)


def completed(curve):
    # Of degree 2: its last number times the square of x + half, and the number that is left.
    half = over(curve[1], times(TWO, curve[2]))
    left = minus(curve[0], times(curve[2], times(half, half)))
    return [(curve[2], (half, ONE)), (left, (ONE,))]


def whole_above(one):
    return (-(-one[0] // one[1]), 1)


def where_both_above(room, share):
    # Room climbs to a hill's top, falls, and climbs again; at that top both are above nought, so halving
    # goes towards it. Ahead of it the slope is above nought and the slope's slope below.
    steep = slope(room)
    wanted = (tops_of(room), tops_of(share))
    tops = tops_of(steep)
    bend = tops_of(slope(steep))
    high = whole_above(bound(steep))
    low = minus(NOUGHT, high)
    middle = halfway(low, high)
    while any([sign_at(one, middle) <= 0 for one in wanted]):
        if sign_at(tops, middle) > 0 and sign_at(bend, middle) < 0:
            low = middle
        else:
            high = middle
        middle = halfway(low, high)
    return middle


def leading_square(curve):
    # Of a curve of degree 4 above nought: x^2 + half x + s, such that the curve less its last number times
    # the square of that is of degree 2 and still above nought. What is left is share x^2 + slant x + base,
    # each a curve in s: it is above nought where share is, and room, which is four times share times base
    # less slant times slant.
    last = curve[4]
    half = over(curve[3], times(TWO, last))
    twice = times(TWO, last)
    share = (minus(curve[2], times(last, times(half, half))), minus(NOUGHT, twice))
    slant = curve_of([curve[1], minus(NOUGHT, times(twice, half))])
    base = (curve[0], NOUGHT, minus(NOUGHT, last))
    room = taken(scaled(multiplied(share, base), FOUR), multiplied(slant, slant))
    return (where_both_above(room, share), half, ONE)


def squares_above(curve):
    # Of a curve of degree 0, 2 or 4 that is above nought everywhere; the last square is a number's.
    if len(curve) == 1:
        return [(curve[0], (ONE,))]
    if len(curve) == 3:
        return completed(curve)
    ahead = leading_square(curve)
    left = taken(curve, scaled(multiplied(ahead, ahead), curve[4]))
    return [(curve[4], ahead)] + completed(left)


def squares_touching(curve):
    # Each place where such a curve is nought is one of its root: the rest is above nought everywhere.
    parts = split(curve)
    return [(one[0], multiplied(parts[0], one[1])) for one in squares_above(parts[1])]


def squares(curve):
    check_squared(curve)
    if len(curve) == 0:
        return []
    word = on_all(curve)[0]
    if word == BELOW:
        raise NoCurve("a curve that is below nought somewhere is no sum of squares")
    if word == TOUCHES:
        return squares_touching(curve)
    return squares_above(curve)


def is_square_in(curve, one):
    # Weights above nought never cancel a highest power, so no square has a greater degree than the sum.
    return sign(one[0]) > 0 and len(one[1]) > 0 and 2 * len(one[1]) - 1 <= len(curve)


def are_squares(curve, some):
    if not all([is_square_in(curve, one) for one in some]):
        return False
    total = ()
    for one in some:
        total = added(total, scaled(multiplied(one[1], one[1]), one[0]))
    return total == curve


def always(curve):
    check_squared(curve)
    if len(curve) == 0:
        return (TOUCHES, [], NOUGHT, NOUGHT)
    told = on_all(curve)
    if told[0] == BELOW:
        return told
    if told[0] == TOUCHES:
        row = place_rows(told[1])[0]
        return (TOUCHES, squares_touching(curve), row[1], row[2])
    # The number by itself at the end is what can be taken off.
    found = squares_above(curve)
    return (ABOVE, found[-1][0], found[:-1])
