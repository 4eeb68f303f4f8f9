"""Where two curves meet on a stretch, how they meet there, and which one is above between."""

from neverbelow.curves import taken
from neverbelow.maps import PLACE, check_asked, is_point, map_of
from neverbelow.mixes import sign_of
from neverbelow.wholes import sign_at, tops_of

ALIKE = "alike"
MEET = "meet"
END = "end"
CROSSES = "crosses"
TOUCHES = "touches"


def signs_beside(curve, rows, place):
    # Told are the signs just ahead of and just behind the place, None where the stretch doesn't go so far.
    row = rows[place]
    if not is_point(row):
        tops = tops_of(curve)
        return (sign_at(tops, row[1]), sign_at(tops, row[2]))
    # Beside a row that is one number stand clear rows alone: at its ends no other place row has a nought.
    ahead = None
    behind = None
    if place > 0:
        ahead = sign_of(rows[place - 1][3])
    if place < len(rows) - 1:
        behind = sign_of(rows[place + 1][3])
    return (ahead, behind)


def signs_beside_all(curve, rows):
    return [signs_beside(curve, rows, place) for place in range(len(rows)) if rows[place][0] == PLACE]


def word_for(signs):
    if None in signs:
        return END
    if signs[0] != signs[1]:
        return CROSSES
    return TOUCHES


def difference(one, other, low, high):
    found = taken(one, other)
    check_asked(found, low, high)
    return found


def meetings(one, other, low, high):
    curve = difference(one, other, low, high)
    if len(curve) == 0:
        return (ALIKE,)
    rows = map_of(curve, low, high)
    return (MEET, [word_for(signs) for signs in signs_beside_all(curve, rows)], rows)


def sides(one, other, low, high):
    curve = difference(one, other, low, high)
    if len(curve) == 0:
        return []
    rows = map_of(curve, low, high)
    beside = signs_beside_all(curve, rows)
    if len(beside) == 0:
        return [sign_of(rows[0][3])]
    found = [beside[0][0]] + [signs[1] for signs in beside]
    return [side for side in found if side is not None]
