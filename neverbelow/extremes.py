"""Least and greatest worths of a curve on a stretch, as near as asked, with what shows them."""

from neverbelow.common import plain
from neverbelow.curves import curve_of, slope, taken, worth
from neverbelow.maps import HALF, check_asked, check_near, nearer, places_of
from neverbelow.mixes import mixed_tops
from neverbelow.numbers import NOUGHT, less, minus, sign, times
from neverbelow.verdicts import BELOW, verdict
from neverbelow.wholes import common_bottom, tops_of, tops_over


def falls_by_more(tops, start, end, drop):
    # Nowhere between start and end is a curve lower than the least of its mixing numbers there.
    found = mixed_tops(tops, start, end, len(tops) - 1)
    return less(drop, (found[0][0] - min(found[0]), found[1]))


def turns(curve, low, high, drop):
    # Of each place where the slope is nought: a number at or ahead of it, from which the curve falls by
    # at most drop on the way there.
    if len(curve) < 2:
        return []
    bottom = common_bottom(curve)
    tops = tops_over(curve, bottom)
    allowed = times(drop, (bottom, 1))
    part = plain(slope(curve))
    tops_of_part = tops_of(part)
    found = []
    for one in places_of(part, low, high):
        asked = one
        while asked[0] != asked[1] and falls_by_more(tops, asked[0], asked[1], allowed):
            asked = nearer(tops_of_part, asked[0], asked[1])
        found.append(asked[0])
    return found


def lowest_of(curve, places):
    found = (worth(curve, places[0]), places[0])
    for place in places[1:]:
        there = worth(curve, place)
        if less(there, found[0]):
            found = (there, place)
    return found


def multiple_under(one, unit):
    # The greatest multiple of unit that is at least unit below the one: it has few figures, where the
    # worth at a narrow place has many.
    return times(unit, (one[0] * unit[1] // (one[1] * unit[0]) - 1, 1))


def verdict_above(curve, floor, low, high):
    return verdict(taken(curve, curve_of([floor])), low, high)


def may_be_least(curve, low, high, place):
    # Beside a turn the curve is lower still, so there the verdict needn't be asked.
    return place in (low, high) or sign(worth(slope(curve), place)) == 0


def least(curve, low, high, near):
    check_asked(curve, low, high)
    check_near(near)
    # One half of near is for what lies below a number beside a turn, the other for a floor of few figures.
    drop = times(near, HALF)
    # Between its turns the curve only climbs or only falls, so it is lowest at an end or a turn.
    lowest = lowest_of(curve, [low, high] + turns(curve, low, high, drop))
    if may_be_least(curve, low, high, lowest[1]):
        told = verdict_above(curve, lowest[0], low, high)
        if told[0] != BELOW:
            return (lowest[0], lowest[1], told)
    floor = multiple_under(lowest[0], drop)
    return (floor, lowest[1], verdict_above(curve, floor, low, high))


def greatest(curve, low, high, near):
    told = least(taken((), curve), low, high, near)
    return (minus(NOUGHT, told[0]), told[1], told[2])
