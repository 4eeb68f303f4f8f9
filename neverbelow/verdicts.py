"""Verdicts on a stretch: a curve is above nought, touches it or goes below, with what shows it."""

from neverbelow.maps import CLEAR, PLACE, check_asked, halfway, holds, map_of
from neverbelow.mixes import check_stretch, sign_of
from neverbelow.numbers import less
from neverbelow.wholes import sign_at, tops_of

ABOVE = "above"
TOUCHES = "touches"
BELOW = "below"


def place_rows(rows):
    return [row for row in rows if row[0] == PLACE]


def below_in(curve, rows):
    # Told is None where the rows show that the curve is nowhere below nought. In a place row the curve
    # has at both sides of its place the signs that it has at the row's ends, so the ends are enough.
    tops = tops_of(curve)
    for row in rows:
        for end in (row[1], row[2]):
            if sign_at(tops, end) < 0:
                return end
        # A clear row below nought may still be nought at both its ends.
        if row[0] == CLEAR and sign_of(row[3]) < 0:
            return halfway(row[1], row[2])
    return None


def verdict(curve, low, high):
    check_asked(curve, low, high)
    if len(curve) == 0:
        return (TOUCHES, [])
    rows = map_of(curve, low, high)
    place = below_in(curve, rows)
    if place is not None:
        return (BELOW, place)
    if len(place_rows(rows)) > 0:
        return (TOUCHES, rows)
    return (ABOVE, rows)


def is_below_at(curve, low, high, place):
    return not less(place, low) and not less(high, place) and sign_at(tops_of(curve), place) < 0


def shown(curve, low, high, told):
    check_stretch(low, high)
    if len(curve) == 0:
        return told == (TOUCHES, [])
    if told[0] == BELOW:
        return is_below_at(curve, low, high, told[1])
    if told[0] not in (ABOVE, TOUCHES) or not holds(curve, low, high, told[1]):
        return False
    has_place = len(place_rows(told[1])) > 0
    return has_place == (told[0] == TOUCHES) and below_in(curve, told[1]) is None
