"""Curves in whole numbers: tops over one bottom, so that fractions are shortened at the end alone."""

from neverbelow.numbers import greatest_divisor


def common_bottom(numbers):
    found = 1
    for one in numbers:
        found = found // greatest_divisor(found, one[1]) * one[1]
    return found


def tops_over(numbers, bottom):
    return [one[0] * (bottom // one[1]) for one in numbers]


def tops_of(numbers):
    return tops_over(numbers, common_bottom(numbers))


def replaced(tops, start, step, bottom):
    # Told is (tops, bottom) of the curve's worths at (start + step * t) / bottom, as a curve in t.
    found = list(tops)
    whole = 1
    for place in range(len(tops) - 2, -1, -1):
        whole = whole * bottom
        found[place] = found[place] * whole
    for done in range(len(tops)):
        for place in range(len(tops) - 2, done - 1, -1):
            found[place] = found[place] + start * found[place + 1]
    power = 1
    for place in range(1, len(tops)):
        power = power * step
        found[place] = found[place] * power
    return (found, whole)


def sign_of_whole(top):
    if top > 0:
        return 1
    if top < 0:
        return -1
    return 0


def sign_at(tops, x):
    # Each power of x is taken times the greatest power of its bottom: above nought, so the sign stays.
    found = 0
    power = 1
    for top in reversed(tops):
        found = found * x[0] + top * power
        power = power * x[1]
    return sign_of_whole(found)


def one_sign(tops):
    signs = [sign_of_whole(top) for top in tops]
    if 1 in signs and -1 not in signs:
        return 1
    if -1 in signs and 1 not in signs:
        return -1
    return 0


def sign_changes(tops):
    signs = [sign_of_whole(top) for top in tops if top != 0]
    return len([place for place in range(1, len(signs)) if signs[place] != signs[place - 1]])
