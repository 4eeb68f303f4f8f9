"""Common parts of curves, plain parts, and the split of a curve in root and rest."""

from neverbelow.curves import divided, multiplied, slope
from neverbelow.errors import NoCurve
from neverbelow.numbers import ONE, greatest_divisor, number
from neverbelow.wholes import tops_of


def check_curve(curve):
    if len(curve) == 0:
        raise NoCurve("the curve that is nought has no plain part and no split")


def with_last_one(tops):
    return tuple([number(top, tops[-1]) for top in tops])


def shortened(tops):
    divisor = 0
    for top in tops:
        divisor = greatest_divisor(divisor, top)
    return [top // divisor for top in tops]


def rest_of(tops, by):
    # The rest is told up to a factor, which leaves it in whole numbers and changes no common part.
    rest = list(tops)
    while len(rest) >= len(by):
        lead = rest.pop()
        shift = len(rest) - len(by) + 1
        rest = [by[-1] * top for top in rest]
        for step in range(len(by) - 1):
            rest[shift + step] = rest[shift + step] - lead * by[step]
    while len(rest) > 0 and rest[-1] == 0:
        rest.pop()
    # Without this the numbers would double their figures with each rest.
    return shortened(rest)


def common(one, other):
    found = tops_of(one)
    rest = tops_of(other)
    while len(rest) > 0:
        behind = rest_of(found, rest)
        found = rest
        rest = behind
    return with_last_one(found)


def plain(curve):
    check_curve(curve)
    return with_last_one(tops_of(divided(curve, common(curve, slope(curve)))[0]))


def split(curve):
    # The common part with the slope has each factor once less. So once / twice has the factors that
    # stand twice or more in what is left, each once: they go to the root, and two of each are done.
    check_curve(curve)
    root = (ONE,)
    left = curve
    while len(left) > 1:
        once = common(left, slope(left))
        twice = common(once, slope(once))
        root = multiplied(root, divided(once, twice)[0])
        left = twice
    return (root, divided(curve, multiplied(root, root))[0])
