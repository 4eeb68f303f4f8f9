"""Maps: rows that show each place of a stretch where a curve is nought, and its sign elsewhere."""

from neverbelow.common import plain
from neverbelow.curves import slope
from neverbelow.errors import NoCurve, NoNear, TooGreat
from neverbelow.mixes import check_stretch, mixed, mixed_tops, sign_of
from neverbelow.numbers import less, minus, plus, sign, times
from neverbelow.wholes import one_sign, sign_at, sign_changes, tops_of

MOST_DEGREE = 6
HALF = (1, 2)
CLEAR = "clear"
PLACE = "place"


def halfway(start, end):
    return times(plus(start, end), HALF)


def full_mix(curve, start, end):
    return mixed(curve, start, end, len(curve) - 1)


def full_mix_tops(tops, start, end):
    return mixed_tops(tops, start, end, len(tops) - 1)[0]


def holds_one_place(mix, steep, start, end):
    # One change of sign means one place between start and end. Were there another one at an end, the
    # slope would be nought between the two, and its mixing numbers would not have one sign.
    return sign_changes(mix) == 1 and one_sign(full_mix_tops(steep, start, end)) != 0


def places_of(part, low, high):
    # The pile holds what is still to be asked, the lowest on top, so that the places come in order;
    # a number by itself stands there with start and end alike.
    tops = tops_of(part)
    steep = tops_of(slope(part))
    found = []
    pile = [(high, high), (low, high), (low, low)]
    while len(pile) > 0:
        asked = pile.pop()
        start = asked[0]
        end = asked[1]
        if start == end:
            if sign_at(tops, start) == 0:
                found.append(asked)
            continue
        mix = full_mix_tops(tops, start, end)
        if holds_one_place(mix, steep, start, end):
            found.append(asked)
        elif sign_changes(mix) > 0:
            middle = halfway(start, end)
            pile.extend([(middle, end), (middle, middle), (start, middle)])
    return found


def is_clear(tops, start, end):
    return one_sign(full_mix_tops(tops, start, end)) != 0


def clear_stretches(curve, low, high):
    # A stretch is joined to the one ahead where both together are clear: else halving would leave a
    # long row of ever shorter ones beside a place that is nearly one.
    tops = tops_of(curve)
    found = []
    pile = [(low, high)]
    while len(pile) > 0:
        asked = pile.pop()
        start = asked[0]
        end = asked[1]
        if len(found) > 0 and is_clear(tops, found[-1][0], end):
            found[-1] = (found[-1][0], end)
        elif is_clear(tops, start, end):
            found.append(asked)
        else:
            middle = halfway(start, end)
            pile.extend([(middle, end), (start, middle)])
    return found


def clear_rows(curve, low, high):
    if not less(low, high):
        return []
    found = clear_stretches(curve, low, high)
    return [(CLEAR, one[0], one[1], full_mix(curve, one[0], one[1])) for one in found]


def place_row(part, start, end):
    if start == end:
        return (PLACE, start, end, [])
    return (PLACE, start, end, full_mix(slope(part), start, end))


def check_asked(curve, low, high):
    if len(curve) - 1 > MOST_DEGREE:
        raise TooGreat("a curve that is looked at on a stretch has a degree of at most six")
    check_stretch(low, high)


def map_of(curve, low, high):
    if len(curve) == 0:
        raise NoCurve("the curve that is nought has no map")
    check_asked(curve, low, high)
    part = plain(curve)
    rows = []
    done = low
    for one in places_of(part, low, high):
        rows.extend(clear_rows(curve, done, one[0]))
        rows.append(place_row(part, one[0], one[1]))
        done = one[1]
    rows.extend(clear_rows(curve, done, high))
    return rows


def follow_on(rows, low, high):
    if len(rows) == 0 or rows[0][1] != low or rows[-1][2] != high:
        return False
    return all([rows[place][1] == rows[place - 1][2] for place in range(1, len(rows))])


def clear_row_holds(curve, start, end, numbers):
    return less(start, end) and numbers == full_mix(curve, start, end) and sign_of(numbers) != 0


def place_row_holds(part, start, end, numbers):
    # The plain part is nought just where the curve is, so it is asked in the place of the curve.
    tops = tops_of(part)
    if start == end:
        return numbers == [] and sign_at(tops, start) == 0
    if not less(start, end) or sign_at(tops, start) * sign_at(tops, end) != -1:
        return False
    return numbers == full_mix(slope(part), start, end) and sign_of(numbers) != 0


def row_holds(curve, part, row):
    if row[0] == CLEAR:
        return clear_row_holds(curve, row[1], row[2], row[3])
    return row[0] == PLACE and place_row_holds(part, row[1], row[2], row[3])


def is_point(row):
    return row[0] == PLACE and row[1] == row[2]


def ends_have_places(part, rows):
    tops = tops_of(part)
    points = [row[1] for row in rows if is_point(row)]
    for row in rows:
        if row[0] == CLEAR:
            for end in (row[1], row[2]):
                if sign_at(tops, end) == 0 and end not in points:
                    return False
    return True


def holds(curve, low, high, rows):
    check_stretch(low, high)
    if not follow_on(rows, low, high):
        return False
    part = plain(curve)
    if not all([row_holds(curve, part, row) for row in rows]) or not ends_have_places(part, rows):
        return False
    return not any([is_point(rows[place]) and is_point(rows[place - 1]) for place in range(1, len(rows))])


def nearer(tops, start, end):
    middle = halfway(start, end)
    there = sign_at(tops, middle)
    if there == 0:
        return (middle, middle)
    if there == sign_at(tops, start):
        return (middle, end)
    return (start, middle)


def narrowed(curve, start, end):
    if start == end:
        return (start, end)
    return nearer(tops_of(plain(curve)), start, end)


def check_near(width):
    if sign(width) <= 0:
        raise NoNear("a nearness is above nought")


def near_to(curve, start, end, width):
    check_near(width)
    tops = tops_of(plain(curve))
    found = (start, end)
    while less(width, minus(found[1], found[0])):
        found = nearer(tops, found[0], found[1])
    return found
