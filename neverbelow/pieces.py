"""Pieces: curves on stretches that follow on, how smoothly they are joined, and what is told of such a row."""

from neverbelow.curves import added, moved, multiplied, slope, stretched, taken, worth
from neverbelow.errors import NoNumber, NoPieces, NoStretch, TooGreat
from neverbelow.extremes import least
from neverbelow.maps import MOST_DEGREE
from neverbelow.numbers import less, plus, sign, times
from neverbelow.verdicts import ABOVE, BELOW, TOUCHES, verdict

MOST_PIECES = 8


def check_pieces(pieces):
    if len(pieces) == 0 or len(pieces) > MOST_PIECES:
        raise NoPieces("a row has one to eight pieces")
    if not all([less(piece[0], piece[1]) for piece in pieces]):
        raise NoPieces("a piece has its low less than its high")
    if not all([pieces[place][0] == pieces[place - 1][1] for place in range(1, len(pieces))]):
        raise NoPieces("each piece begins where the one ahead ends")


def row_of(pieces):
    check_pieces(pieces)
    if any([len(piece[2]) - 1 > MOST_DEGREE for piece in pieces]):
        raise TooGreat("the curve of a piece has a degree of at most six")
    return tuple(pieces)


def row_worth(row, x):
    if less(x, row[0][0]) or less(row[-1][1], x):
        raise NoStretch("this place lies outside of the row")
    # The last piece that doesn't begin behind x: at a joint that is the one that begins there.
    begun = [piece for piece in row if not less(x, piece[0])]
    return worth(begun[-1][2], x)


def smooth_at(one, other, joint):
    left = taken(one, other)
    if len(left) == 0:
        return None
    found = -1
    # This ends, as the slopes of what isn't nought come to a number that isn't nought.
    while sign(worth(left, joint)) == 0:
        found = found + 1
        left = slope(left)
    return found


def smoothness(row):
    return [smooth_at(row[place - 1][2], row[place][2], row[place][0]) for place in range(1, len(row))]


def is_joined(row):
    return -1 not in smoothness(row)


def row_verdict(row):
    told = [verdict(piece[2], piece[0], piece[1]) for piece in row]
    words = [one[0] for one in told]
    for word in (BELOW, TOUCHES):
        if word in words:
            return (word, told)
    return (ABOVE, told)


def row_least(row, near):
    # The lowest floor of all is one for each piece, and its own place comes near to it.
    told = [least(piece[2], piece[0], piece[1], near) for piece in row]
    found = told[0]
    for one in told[1:]:
        if less(one[0], found[0]):
            found = one
    return (found[0], found[1])


def overlaid(one, other):
    # Told are tuples (low, high, curve of the one, curve of the other), cut at the joints of both.
    if one[0][0] != other[0][0] or one[-1][1] != other[-1][1]:
        raise NoPieces("both rows begin alike and end alike")
    found = []
    low = one[0][0]
    place = 0
    step = 0
    while place < len(one):
        high = one[place][1]
        if less(other[step][1], high):
            high = other[step][1]
        found.append((low, high, one[place][2], other[step][2]))
        low = high
        if one[place][1] == high:
            place = place + 1
        if other[step][1] == high:
            step = step + 1
    return found


def rows_added(one, other):
    return row_of([(both[0], both[1], added(both[2], both[3])) for both in overlaid(one, other)])


def rows_multiplied(one, other):
    return row_of([(both[0], both[1], multiplied(both[2], both[3])) for both in overlaid(one, other)])


def row_moved(row, c):
    return tuple([(plus(piece[0], c), plus(piece[1], c), moved(piece[2], c)) for piece in row])


def row_stretched(row, k):
    if sign(k) <= 0:
        raise NoNumber("a row is stretched by a number above nought")
    return tuple([(times(piece[0], k), times(piece[1], k), stretched(piece[2], k)) for piece in row])


def plainest(row):
    found = []
    for piece in row:
        if len(found) > 0 and found[-1][2] == piece[2]:
            found[-1] = (found[-1][0], piece[1], piece[2])
        else:
            found.append(piece)
    return tuple(found)
