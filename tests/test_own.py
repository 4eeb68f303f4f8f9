"""Point 2 for what is handed in and told by the modules behind curves."""

import copy
import unittest

from helpers import at_roots, cur, num, nums
from neverbelow.common import common, plain, split
from neverbelow.extremes import greatest, least
from neverbelow.maps import holds, map_of, narrowed, near_to
from neverbelow.mixes import cut, mixed, raised, sign_of, unmixed, worth_at
from neverbelow.squares import always, are_squares, bound, squares
from neverbelow.verdicts import shown, verdict

TOUCHES = at_roots(0, 1, 1)
ROOT_TWO = cur(-2, 0, 1)
TWICE_ROOT_TWO = cur(4, 0, -4, 0, 1)
QUARTIC = cur(5, 1, 0, 2, 1)


def asked_of_verdicts():
    low, high = num(-2), num(3)
    curves = ((), cur(1), TOUCHES, ROOT_TWO, TWICE_ROOT_TWO, QUARTIC)
    return tuple((verdict, (curve, low, high)) for curve in curves) + tuple(
        (shown, (curve, low, high, verdict(curve, low, high))) for curve in curves
    ) + ((shown, (QUARTIC, low, high, ("above", []))), (shown, (ROOT_TWO, low, high, ("below", num(2)))))


def asked_of_squares():
    curves = ((), cur(7), at_roots(1, 1), TWICE_ROOT_TWO, QUARTIC)
    return tuple((squares, (curve,)) for curve in curves) + tuple(
        (are_squares, (curve, squares(curve))) for curve in curves
    ) + tuple((always, (curve,)) for curve in curves + (ROOT_TWO,)) + (
        (are_squares, (ROOT_TWO, [(num(1), cur(0, 1)), (num(-1), cur(1))])), (bound, (QUARTIC,)), (bound, (cur(7),)),
    )


def asked_of_extremes():
    curves = ((), cur(7), TOUCHES, TWICE_ROOT_TWO, QUARTIC)
    return tuple((own, (curve, num(-2), num(3), num(1, 9))) for own in (least, greatest) for curve in curves)


def asked():
    """Each function with what is handed in, new each time."""
    return (
        (common, (TOUCHES, at_roots(1, 1, 2))), (plain, (TOUCHES,)), (split, (TOUCHES,)),
        (mixed, (TOUCHES, num(0), num(2), 3)), (mixed, ((), num(0), num(2), 2)), (mixed, (cur(1), num(0), num(2), 0)),
        (unmixed, (nums(1, 2, 3, 0, 0), num(0), num(2))), (unmixed, (nums(0, 0), num(0), num(2))),
        (worth_at, (nums(1, 2, 4), num(1, 3))), (worth_at, (nums(5), num(1, 3))),
        (cut, (nums(1, 2, 4), num(1, 3))), (cut, (nums(1), num(1, 3))), (cut, (nums(1, 1), num(1, 2))),
        (raised, (nums(1, 2, 4),)), (raised, (nums(0),)), (sign_of, (nums(0, 1, 0),)), (sign_of, (nums(0),)),
        (map_of, (TOUCHES, num(0), num(2))), (map_of, (ROOT_TWO, num(-2), num(3))), (map_of, (cur(1), num(0), num(1))),
        (holds, (TOUCHES, num(0), num(2), map_of(TOUCHES, num(0), num(2)))),
        (holds, (ROOT_TWO, num(-2), num(3), map_of(ROOT_TWO, num(-2), num(3)))),
        (holds, (ROOT_TWO, num(-2), num(3), [])),
        (narrowed, (ROOT_TWO, num(1), num(2))), (near_to, (ROOT_TWO, num(1), num(2), num(1, 100))),
    ) + asked_of_verdicts() + asked_of_squares() + asked_of_extremes()


def lists_within(told):
    if isinstance(told, (list, tuple)):
        for one in told:
            yield from lists_within(one)
    if isinstance(told, list):
        yield told


class OwnTest(unittest.TestCase):
    def test_handed_in_stays(self):
        for own, handed in asked():
            with self.subTest(own.__name__):
                ahead = copy.deepcopy(handed)
                own(*handed)
                self.assertEqual(handed, ahead)

    def test_asked_twice_the_same_is_told(self):
        for own, handed in asked():
            with self.subTest(own.__name__):
                self.assertEqual(own(*handed), own(*handed))

    def test_no_list_is_told_twice(self):
        for own, handed in asked():
            with self.subTest(own.__name__):
                told = (own(*handed), own(*handed))
                lists = [id(one) for one in lists_within(told)] + [id(one) for one in lists_within(handed)]
                self.assertEqual(len(lists), len(set(lists)))

    def test_told_is_the_askers_own(self):
        for own, handed in asked():
            with self.subTest(own.__name__):
                told = own(*handed)
                ahead = copy.deepcopy((told, handed))
                for one in lists_within(told):
                    one.append(num(77))
                    one[0] = num(99)
                self.assertEqual((own(*handed), handed), ahead)

    def test_told_earlier_stays(self):
        earlier = [(own(*handed), own, handed) for own, handed in asked()]
        kept = copy.deepcopy([told for told, own, handed in earlier])
        for told, own, handed in earlier:
            own(*handed)
            for one in lists_within(handed):
                one.append(num(77))
        self.assertEqual([told for told, own, handed in earlier], kept)

    def test_handed_in_is_taken_as_it_is_then(self):
        rows = map_of(ROOT_TWO, num(-2), num(3))
        self.assertIs(holds(ROOT_TWO, num(-2), num(3), rows), True)
        kept = rows.pop()
        self.assertIs(holds(ROOT_TWO, num(-2), num(3), rows), False)
        rows.append(kept)
        rows[0][3][0] = num(99)
        self.assertIs(holds(ROOT_TWO, num(-2), num(3), rows), False)
        numbers = nums(0, 1)
        self.assertEqual(sign_of(numbers), 1)
        numbers[0] = num(-1)
        self.assertEqual(sign_of(numbers), 0)

    def test_verdicts_and_squares_are_taken_as_they_are_then(self):
        told = verdict(QUARTIC, num(-2), num(3))
        self.assertIs(shown(QUARTIC, num(-2), num(3), told), True)
        told[1][0][3][0] = num(99)
        self.assertIs(shown(QUARTIC, num(-2), num(3), told), False)
        some = squares(QUARTIC)
        self.assertIs(are_squares(QUARTIC, some), True)
        some.pop()
        self.assertIs(are_squares(QUARTIC, some), False)


if __name__ == "__main__":
    unittest.main()
