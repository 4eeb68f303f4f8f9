"""Mixing numbers: a curve on a stretch, told by the numbers that it mixes there."""

from neverbelow.curves import MOST_NUMBERS, curve_of
from neverbelow.errors import NoStretch, TooGreat
from neverbelow.numbers import NOUGHT, ONE, less, number
from neverbelow.wholes import common_bottom, one_sign, replaced, tops_over


def check_stretch(low, high):
    if not less(low, high):
        raise NoStretch("a stretch has its low less than its high")


def product_from(first, last):
    found = 1
    for factor in range(first, last + 1):
        found = found * factor
    return found


def chosen(many, few):
    return product_from(many - few + 1, many) // product_from(1, few)


def mixed_tops(tops, low, high, degree):
    # Told is (tops, bottom) of the mixing numbers. In t the curve's numbers, each divided by the
    # ways to choose, are the differences of the mixing numbers; sums of sums undo the differences.
    bottom = common_bottom([low, high])
    ends = tops_over([low, high], bottom)
    unit = replaced(tops, ends[0], ends[1] - ends[0], bottom)
    found = unit[0] + [0] * (degree + 1 - len(tops))
    for place in range(degree + 1):
        found[place] = found[place] * product_from(1, place) * product_from(1, degree - place)
    for done in range(degree):
        for place in range(degree, done, -1):
            found[place] = found[place] + found[place - 1]
    return (found, unit[1] * product_from(1, degree))


def mixed(curve, low, high, degree):
    check_stretch(low, high)
    if degree < 0 or degree < len(curve) - 1 or degree >= MOST_NUMBERS:
        raise TooGreat("there are no mixing numbers of this curve for this degree")
    bottom = common_bottom(curve)
    found = mixed_tops(tops_over(curve, bottom), low, high, degree)
    return [number(top, found[1] * bottom) for top in found[0]]


def unmixed(numbers, low, high):
    check_stretch(low, high)
    bottom = common_bottom(numbers)
    found = tops_over(numbers, bottom)
    degree = len(numbers) - 1
    for done in range(degree):
        for place in range(degree, done, -1):
            found[place] = found[place] - found[place - 1]
    found = [found[place] * chosen(degree, place) for place in range(len(found))]
    below = common_bottom([low, high])
    ends = tops_over([low, high], below)
    # As x is (low + width * t) / below, t is (below * x - low) / width.
    told = replaced(found, -ends[0], below, ends[1] - ends[0])
    return curve_of([number(top, told[1] * bottom) for top in told[0]])


def between(tops, t):
    # Each is t of the way from one to the following one, times the bottom of t.
    return [(t[1] - t[0]) * tops[place] + t[0] * tops[place + 1] for place in range(len(tops) - 1)]


def worth_at(numbers, t):
    bottom = common_bottom(numbers)
    tops = tops_over(numbers, bottom)
    while len(tops) > 1:
        tops = between(tops, t)
        bottom = bottom * t[1]
    return number(tops[0], bottom)


def cut(numbers, t):
    if not less(NOUGHT, t) or not less(t, ONE):
        raise NoStretch("a cut lies above 0 and below 1")
    bottom = common_bottom(numbers)
    tops = tops_over(numbers, bottom)
    ahead = []
    behind = []
    while len(tops) > 0:
        ahead.append(number(tops[0], bottom))
        behind.append(number(tops[-1], bottom))
        tops = between(tops, t)
        bottom = bottom * t[1]
    return (ahead, list(reversed(behind)))


def raised(numbers):
    size = len(numbers)
    if size >= MOST_NUMBERS:
        raise TooGreat("there are at most thirteen mixing numbers")
    bottom = common_bottom(numbers)
    # The noughts at both ends stand for neighbours that are not there: each is taken no times.
    tops = [0] + tops_over(numbers, bottom) + [0]
    found = [place * tops[place] + (size - place) * tops[place + 1] for place in range(size + 1)]
    return [number(top, size * bottom) for top in found]


def sign_of(numbers):
    return one_sign([one[0] for one in numbers])
