"""Point 2 for what is handed in and told by the modules behind curves."""

import copy
import unittest

from helpers import at_roots, cur, num, nums, pieces_at, steps
from neverbelow.common import common, plain, split
from neverbelow.crossings import meetings, sides
from neverbelow.desk import Desk
from neverbelow.extremes import greatest, least
from neverbelow.maps import holds, map_of, narrowed, near_to
from neverbelow.mixes import cut, mixed, raised, sign_of, unmixed, worth_at
from neverbelow.pieces import is_joined, plainest, row_least, row_moved, row_of, row_stretched, row_verdict, row_worth
from neverbelow.pieces import rows_added, rows_multiplied, smoothness
from neverbelow.squares import always, are_squares, bound, squares
from neverbelow.texts import read_curve, read_number, show_curve, show_number
from neverbelow.verdicts import shown, verdict

TOUCHES = at_roots(0, 1, 1)
ROOT_TWO = cur(-2, 0, 1)
TWICE_ROOT_TWO = cur(4, 0, -4, 0, 1)
QUARTIC = cur(5, 1, 0, 2, 1)


def asked_of_verdicts():
    low, high = num(-2), num(3)
    curves = ((), cur(1), TOUCHES, ROOT_TWO, TWICE_ROOT_TWO, QUARTIC)
    return tuple((verdict, (curve, low, high)) for curve in curves) + tuple(
        (shown, (curve, low, high, verdict(curve, low, high))) for curve in curves
    ) + ((shown, (QUARTIC, low, high, ("above", []))), (shown, (ROOT_TWO, low, high, ("below", num(2)))))


def asked_of_squares():
    curves = ((), cur(7), at_roots(1, 1), TWICE_ROOT_TWO, QUARTIC)
    return tuple((squares, (curve,)) for curve in curves) + tuple(
        (are_squares, (curve, squares(curve))) for curve in curves
    ) + tuple((always, (curve,)) for curve in curves + (ROOT_TWO,)) + (
        (are_squares, (ROOT_TWO, [(num(1), cur(0, 1)), (num(-1), cur(1))])), (bound, (QUARTIC,)), (bound, (cur(7),)),
    )


def asked_of_extremes():
    curves = ((), cur(7), TOUCHES, TWICE_ROOT_TWO, QUARTIC)
    return tuple((own, (curve, num(-2), num(3), num(1, 9))) for own in (least, greatest) for curve in curves)


def asked_of_crossings():
    low, high = num(-2), num(3)
    pairs = ((TOUCHES, ()), (ROOT_TWO, cur(0, 1)), (TWICE_ROOT_TWO, ()), (QUARTIC, ()), (QUARTIC, QUARTIC), ((), ()))
    return tuple((own, (one, other, low, high)) for own in (meetings, sides) for one, other in pairs) + (
        (meetings, (TOUCHES, (), num(0), num(1))), (sides, (TOUCHES, (), num(0), num(1))),
    )


def asked_of_pieces():
    rows = (row_of(steps(1)), row_of(steps(8)), row_of(pieces_at((0, 4, 8), (TOUCHES, TOUCHES))))
    line = row_of(pieces_at((0, 3, 8), (cur(0, 1), QUARTIC)))
    alone = (smoothness, is_joined, row_verdict, plainest)
    with_number = (row_worth, num(1)), (row_least, num(1, 9)), (row_moved, num(1, 3)), (row_stretched, num(1, 3))
    return (
        (row_of, (steps(1),)), (row_of, (steps(8),)), (row_of, (list(line),)),
        (rows_added, (rows[2], line)), (rows_multiplied, (rows[2], row_of(pieces_at((0, 3, 8), (cur(0, 1), ()))))),
    ) + tuple((own, (row,)) for own in alone for row in rows + (line,)) + tuple(
        (own, (row, one)) for own, one in with_number for row in rows + (line,)
    )


def asked_of_texts():
    return (
        (show_number, (num(-1, 2),)), (show_curve, (QUARTIC,)), (show_curve, ((),)), (read_number, ("-1/2",)),
        (read_curve, ("3 - 1/2 x + x^3",)), (read_curve, ("0",)),
    )


def asked():
    """Each function with what is handed in, new each time."""
    return (
        (common, (TOUCHES, at_roots(1, 1, 2))), (plain, (TOUCHES,)), (split, (TOUCHES,)),
        (mixed, (TOUCHES, num(0), num(2), 3)), (mixed, ((), num(0), num(2), 2)), (mixed, (cur(1), num(0), num(2), 0)),
        (unmixed, (nums(1, 2, 3, 0, 0), num(0), num(2))), (unmixed, (nums(0, 0), num(0), num(2))),
        (worth_at, (nums(1, 2, 4), num(1, 3))), (worth_at, (nums(5), num(1, 3))),
        (cut, (nums(1, 2, 4), num(1, 3))), (cut, (nums(1), num(1, 3))), (cut, (nums(1, 1), num(1, 2))),
        (raised, (nums(1, 2, 4),)), (raised, (nums(0),)), (sign_of, (nums(0, 1, 0),)), (sign_of, (nums(0),)),
        (map_of, (TOUCHES, num(0), num(2))), (map_of, (ROOT_TWO, num(-2), num(3))), (map_of, (cur(1), num(0), num(1))),
        (holds, (TOUCHES, num(0), num(2), map_of(TOUCHES, num(0), num(2)))),
        (holds, (ROOT_TWO, num(-2), num(3), map_of(ROOT_TWO, num(-2), num(3)))),
        (holds, (ROOT_TWO, num(-2), num(3), [])),
        (narrowed, (ROOT_TWO, num(1), num(2))), (near_to, (ROOT_TWO, num(1), num(2), num(1, 100))),
    ) + asked_of_verdicts() + asked_of_squares() + asked_of_extremes() + asked_of_crossings() + (
        asked_of_pieces() + asked_of_texts()
    )


def lists_within(told):
    if isinstance(told, (list, tuple)):
        for one in told:
            yield from lists_within(one)
    if isinstance(told, list):
        yield told


class OwnTest(unittest.TestCase):
    def test_handed_in_stays(self):
        for own, handed in asked():
            with self.subTest(own.__name__):
                ahead = copy.deepcopy(handed)
                own(*handed)
                self.assertEqual(handed, ahead)

    def test_asked_twice_the_same_is_told(self):
        for own, handed in asked():
            with self.subTest(own.__name__):
                self.assertEqual(own(*handed), own(*handed))

    def test_no_list_is_told_twice(self):
        for own, handed in asked():
            with self.subTest(own.__name__):
                told = (own(*handed), own(*handed))
                lists = [id(one) for one in lists_within(told)] + [id(one) for one in lists_within(handed)]
                self.assertEqual(len(lists), len(set(lists)))

    def test_told_is_the_askers_own(self):
        for own, handed in asked():
            with self.subTest(own.__name__):
                told = own(*handed)
                ahead = copy.deepcopy((told, handed))
                for one in lists_within(told):
                    one.append(num(77))
                    one[0] = num(99)
                self.assertEqual((own(*handed), handed), ahead)

    def test_told_earlier_stays(self):
        earlier = [(own(*handed), own, handed) for own, handed in asked()]
        kept = copy.deepcopy([told for told, own, handed in earlier])
        for told, own, handed in earlier:
            own(*handed)
            for one in lists_within(handed):
                one.append(num(77))
        self.assertEqual([told for told, own, handed in earlier], kept)

    def test_handed_in_is_taken_as_it_is_then(self):
        rows = map_of(ROOT_TWO, num(-2), num(3))
        self.assertIs(holds(ROOT_TWO, num(-2), num(3), rows), True)
        kept = rows.pop()
        self.assertIs(holds(ROOT_TWO, num(-2), num(3), rows), False)
        rows.append(kept)
        rows[0][3][0] = num(99)
        self.assertIs(holds(ROOT_TWO, num(-2), num(3), rows), False)
        numbers = nums(0, 1)
        self.assertEqual(sign_of(numbers), 1)
        numbers[0] = num(-1)
        self.assertEqual(sign_of(numbers), 0)

    def test_verdicts_and_squares_are_taken_as_they_are_then(self):
        told = verdict(QUARTIC, num(-2), num(3))
        self.assertIs(shown(QUARTIC, num(-2), num(3), told), True)
        told[1][0][3][0] = num(99)
        self.assertIs(shown(QUARTIC, num(-2), num(3), told), False)
        some = squares(QUARTIC)
        self.assertIs(are_squares(QUARTIC, some), True)
        some.pop()
        self.assertIs(are_squares(QUARTIC, some), False)

    def test_pieces_are_taken_as_they_are_then(self):
        handed = steps(3)
        row = row_of(handed)
        kept = copy.deepcopy(row)
        handed[0] = handed[0][:2] + (QUARTIC,)
        handed.pop()
        self.assertEqual(row, kept)
        self.assertEqual(row_of(handed)[0][2], QUARTIC)
        self.assertEqual(len(row_of(handed)), 2)

    def test_lists_of_meetings_and_rows_are_the_askers_own(self):
        told = meetings(TOUCHES, (), num(-2), num(3))
        told[1].clear()
        told[2].pop()
        self.assertEqual(meetings(TOUCHES, (), num(-2), num(3))[1], ["crosses", "touches"])
        row = row_of(steps(3))
        smoothness(row).append(-1)
        self.assertEqual(smoothness(row), [-1, -1])
        whole = row_verdict(row)
        whole[1][0][1].clear()
        whole[1].clear()
        self.assertEqual([word for word, rows in row_verdict(row)[1]], ["above"] * 3)

    def test_what_is_done_elsewhere_changes_no_desk(self):
        desk = Desk()
        desk.say("curve a -2 + x^2")
        told = desk.say("map a -2 3")
        map_of(ROOT_TWO, num(-2), num(3)).clear()
        meetings(ROOT_TWO, (), num(-2), num(3))[1].clear()
        self.assertEqual((desk.say("map a -2 3"), desk.say("show a")), (told, "-2 + x^2"))


if __name__ == "__main__":
    unittest.main()
