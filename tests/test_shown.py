"""Points 18 and 19: which verdicts are shown, and that they go along with a curve that is moved or stretched."""

import unittest
from fractions import Fraction

from helpers import at_roots, clear, cur, frac, num, nums, place, powers, product, refused, with_numbers_times
from neverbelow.common import plain
from neverbelow.curves import moved, stretched
from neverbelow.errors import NoStretch
from neverbelow.maps import holds
from neverbelow.verdicts import shown, verdict

HALF = Fraction(1, 2)
ROOT_TWO = cur(-2, 0, 1)
GOLDEN = cur(-1, -1, 1)
ROUND = cur(1, 0, 1)
TOUCH_AT_ONE = cur(1, -2, 1)


def round_rows():
    return [clear(0, 1, 1, 1, 2), clear(1, 2, 2, 3, 5)]


def touch_rows():
    return [clear(0, 1, 1, 0, 0), place(1, 1), clear(1, 2, 0, 0, 1)]


class ShownTest(unittest.TestCase):
    def check(self, wanted, curve, low, high, told):
        self.assertIs(shown(curve, num(low), num(high), told), wanted, told)

    def check_holds(self, curve, low, high, rows):
        """So that a verdict is refused for another sentence than that of the map."""
        self.assertIs(holds(curve, num(low), num(high), rows), True)

    def test_above(self):
        self.check(True, cur(5), 0, 1, ("above", [clear(0, 1, 5)]))
        self.check(True, ROUND, 0, 2, ("above", round_rows()))
        self.check(True, ROUND, 0, 2, ("above", [clear(0, 2, 1, 1, 5)]))
        self.check(True, ROUND, -1, 1, ("above", [clear(-1, 1, 2, 0, 2)]))

    def test_touches(self):
        self.check(True, TOUCH_AT_ONE, 0, 2, ("touches", touch_rows()))
        self.check(True, TOUCH_AT_ONE, 0, 2, ("touches", [place(0, 2, 1)]))
        self.check(True, cur(0, 1), 0, 2, ("touches", [place(0, 0), clear(0, 2, 0, 2)]))
        self.check(True, cur(0, 1, -1), 0, 1, ("touches", [place(0, 0), clear(0, 1, 0, HALF, 0), place(1, 1)]))
        rows = [clear(0, 1, 4, 4, Fraction(10, 3), 2, 1), place(1, 2, 2, 4)]
        self.check(True, powers((ROOT_TWO,), (2,)), 0, 2, ("touches", rows))

    def test_below(self):
        self.check(True, ROOT_TWO, 0, 3, ("below", num(1)))
        self.check(True, ROOT_TWO, 0, 3, ("below", num(0)))
        self.check(True, ROOT_TWO, -3, 0, ("below", num(0)))
        self.check(True, ROOT_TWO, 0, 3, ("below", num(7, 5)))
        self.check(True, ROOT_TWO, 0, 3, ("below", num(14142135623730950488, 10 ** 19)))

    def test_another_word(self):
        for word in ("over", "", "Above", "ABOVE", "touch", "belows", "clear", "place", "alike"):
            self.check(False, ROUND, 0, 2, (word, round_rows()))
            self.check(False, TOUCH_AT_ONE, 0, 2, (word, touch_rows()))
            self.check(False, ROOT_TWO, 0, 3, (word, num(1)))
            self.check(False, (), 0, 1, (word, []))

    def test_above_with_a_map_that_does_not_hold(self):
        for rows in (
            [], round_rows()[:1], round_rows()[1:], round_rows()[::-1], [clear(0, 1, 1, 1, 2), clear(1, 2, 2, 3, 4)],
            [clear(0, 1, 1, 1, 2), clear(HALF, 2, 2, 3, 5)], [clear(0, 2, 1, 2, 5)], [clear(0, 2, 1, 1, 5, 6)],
            [clear(0, 1, 1, 1, 2), ("clears", num(1), num(2), nums(2, 3, 5))],
        ):
            self.check(False, ROUND, 0, 2, ("above", rows))
        self.check(False, ROUND, -2, 2, ("above", [clear(-2, 2, 5, -3, 5)]))

    def test_touches_with_a_map_that_does_not_hold(self):
        for rows in (
            [], touch_rows()[:2], touch_rows()[1:], touch_rows()[::2], touch_rows()[:2] + touch_rows()[1:],
            [clear(0, 1, 1, 0, 0), place(1, 1, 1), clear(1, 2, 0, 0, 1)], [place(0, 2, 2)], [place(0, 2, -2, 2)],
            [clear(0, 1, 1, 0, 0), place(1, 2)], [place(0, 1, 1), clear(1, 2, 0, 0, 1)],
            [place(0, 0), clear(0, 2, 1, -1, 1)],
        ):
            self.check(False, TOUCH_AT_ONE, 0, 2, ("touches", rows))

    def test_a_map_that_holds_above_nought_with_its_place_left_out(self):
        self.check(False, TOUCH_AT_ONE, 0, 2, ("above", [clear(0, 1, 1, 0, 0), clear(1, 2, 0, 0, 1)]))
        self.check(False, cur(0, 1), 0, 2, ("above", [clear(0, 2, 0, 2)]))

    def test_above_with_a_place_row(self):
        self.check_holds(TOUCH_AT_ONE, 0, 2, touch_rows())
        self.check(False, TOUCH_AT_ONE, 0, 2, ("above", touch_rows()))
        self.check(False, TOUCH_AT_ONE, 0, 2, ("above", [place(0, 2, 1)]))
        self.check(False, cur(0, 1), 0, 2, ("above", [place(0, 0), clear(0, 2, 0, 2)]))
        self.check(False, cur(0, -1), -2, 0, ("above", [clear(-2, 0, 2, 0), place(0, 0)]))

    def test_touches_without_a_place_row(self):
        self.check_holds(ROUND, 0, 2, round_rows())
        self.check(False, ROUND, 0, 2, ("touches", round_rows()))
        self.check(False, cur(5), 0, 1, ("touches", [clear(0, 1, 5)]))

    def test_a_clear_row_whose_sign_is_below(self):
        self.check(False, cur(-5), 0, 1, ("above", [clear(0, 1, -5)]))
        self.check(False, with_numbers_times(ROUND, -1), -1, 1, ("above", [clear(-1, 1, -2, 0, -2)]))
        within = [place(0, 0), clear(0, 1, 0, -HALF, 0), place(1, 1)]
        self.check_holds(cur(0, -1, 1), 0, 1, within)
        self.check(False, cur(0, -1, 1), 0, 1, ("touches", within))
        rows = [clear(0, 1, -1, 0, 0), place(1, 1), clear(1, 2, 0, 0, -1)]
        self.check_holds(with_numbers_times(TOUCH_AT_ONE, -1), 0, 2, rows)
        self.check(False, with_numbers_times(TOUCH_AT_ONE, -1), 0, 2, ("touches", rows))
        one_of_two = [clear(-1, 0, -1, 0), place(0, 0), clear(0, 1, 0, 1)]
        self.check_holds(cur(0, 1), -1, 1, one_of_two)
        self.check(False, cur(0, 1), -1, 1, ("touches", one_of_two))

    def test_a_clear_row_below_behind_those_above(self):
        third = Fraction(1, 3)
        rows = [place(0, 0), clear(0, 1, 0, 0, third, 0), place(1, 1), clear(1, 2, 0, -third, -4 * third, -4)]
        self.check_holds(cur(0, 0, 1, -1), 0, 2, rows)
        self.check(False, cur(0, 0, 1, -1), 0, 2, ("touches", rows))

    def test_a_worth_below_at_a_start_or_an_end(self):
        self.check_holds(cur(0, 1), -1, 1, [place(-1, 1, 1)])
        self.check(False, cur(0, 1), -1, 1, ("touches", [place(-1, 1, 1)]))
        self.check(False, cur(0, -1), -1, 1, ("touches", [place(-1, 1, 1)]))
        rows = [place(-1, 1, 1), clear(1, 2, 1, 2)]
        self.check_holds(cur(0, 1), -1, 2, rows)
        self.check(False, cur(0, 1), -1, 2, ("touches", rows))
        rows = [clear(-2, -1, 2, 1), place(-1, 1, 1)]
        self.check_holds(cur(0, -1), -2, 1, rows)
        self.check(False, cur(0, -1), -2, 1, ("touches", rows))
        rows = [clear(-3, -2, 8, 5, 3), place(-2, 0, -4, 0), place(0, 2, 0, 4), clear(2, 3, 3, 5, 8)]
        self.check_holds(cur(-1, 0, 1), -3, 3, rows)
        self.check(False, cur(-1, 0, 1), -3, 3, ("touches", rows))

    def test_a_place_that_is_not_on_the_stretch(self):
        for curve in (ROOT_TWO, cur(-5)):
            for out in (num(-1), num(-1, 10 ** 59), num(1), num(9 * 10 ** 58 + 1, 10 ** 59), num(-7, 5)):
                self.check(False, curve, 0, Fraction(9, 10), ("below", out))
            for there in (num(0), num(1, 10 ** 59), num(9 * 10 ** 58 - 1, 10 ** 59), num(9, 10)):
                self.check(True, curve, 0, Fraction(9, 10), ("below", there))

    def test_a_place_where_the_worth_is_not_below(self):
        for out in (num(2), num(3), num(3, 2), num(14142135623730950489, 10 ** 19)):
            self.check(False, ROOT_TWO, 0, 3, ("below", out))
        self.check(False, cur(0, 1), -1, 1, ("below", num(0)))
        self.check(False, TOUCH_AT_ONE, 0, 2, ("below", num(1)))
        self.check(False, ROUND, 0, 2, ("below", num(1)))

    def test_nought(self):
        self.check(True, (), 0, 1, ("touches", []))
        for told in (
            ("above", []), ("above", [clear(0, 1, 1)]), ("below", num(0)), ("below", num(1, 2)),
            ("touches", [place(0, 0)]), ("touches", [clear(0, 1)]), ("touches", [clear(0, 1, 0)]),
            ("touches", [place(0, 1)]),
        ):
            self.check(False, (), 0, 1, told)
        for curve in (ROUND, TOUCH_AT_ONE, ROOT_TWO, cur(5), cur(-5), cur(0, 1)):
            self.check(False, curve, 0, 1, ("touches", []))
            self.check(False, curve, 0, 1, ("above", []))

    def test_no_stretch_refused(self):
        for low, high in ((num(1), num(1)), (num(1), num(0))):
            for curve, told in ((ROUND, ("above", round_rows())), (ROOT_TWO, ("below", num(1))), ((), ("touches", []))):
                refused(self, NoStretch, shown, curve, low, high, told)


CARRIED = (
    (ROUND, -1, 2), (cur(3), 0, 1), (cur(-3), 0, 1), (TOUCH_AT_ONE, 0, 2), (TOUCH_AT_ONE, 1, 2), (cur(0, 1), 0, 1),
    (cur(0, 1), -1, 1), (powers((ROOT_TWO,), (2,)), -2, 3), (powers((ROOT_TWO,), (3,)), 0, 2), (ROOT_TWO, 2, 3),
    (powers((GOLDEN, ROUND), (2, 1)), -3, 3), (powers((GOLDEN, at_roots(1)), (2, 2)), -1, 2), (at_roots(0, 1), 0, 1),
    (product(at_roots(0, 0, HALF, HALF), ROUND), 0, 1), (cur(1, 1, 1, 1, 1, 1, 1), -2, 2), (at_roots(0, 0, 0, 2), 2, 3),
)
SHIFTS = (0, 1, Fraction(-7, 3), 10 ** 19, Fraction(1, 10 ** 19))
STRETCHES = (1, 2, Fraction(3, 7), 10 ** 9, Fraction(1, 10 ** 9))


class CarriedTest(unittest.TestCase):
    def check(self, low, high, told, carried, along, place_factor):
        """Carried is the curve, moved or stretched; along tells where a place of it is then."""
        def at(one):
            return num(along(frac(one)))

        def row_along(row):
            factor = place_factor if row[0] == "place" else 1
            return (row[0], at(row[1]), at(row[2]), nums(*[frac(one) * factor for one in row[3]]))

        if told[0] == "below":
            told_along = ("below", at(told[1]))
        else:
            told_along = (told[0], [row_along(row) for row in told[1]])
        self.assertIs(shown(carried, at(low), at(high), told_along), True)
        self.assertEqual(verdict(carried, at(low), at(high))[0], told[0])

    def test_moved(self):
        for curve, low, high in CARRIED:
            told = verdict(curve, num(low), num(high))
            for shift in SHIFTS:
                self.check(num(low), num(high), told, moved(curve, num(shift)), lambda one: one + shift, 1)

    def test_stretched(self):
        # The plain part keeps 1 as its last number, so its slope is not carried along as it is: each
        # number is the more, by one factor for each degree but one.
        for curve, low, high in CARRIED:
            told = verdict(curve, num(low), num(high))
            for factor in STRETCHES:
                carried = stretched(curve, num(factor))
                slopes = Fraction(factor) ** max(len(plain(curve)) - 2, 0)
                self.check(num(low), num(high), told, carried, lambda one: one * factor, slopes)

    def test_nought(self):
        self.assertEqual(verdict(moved((), num(3)), num(3), num(4)), ("touches", []))
        self.assertEqual(verdict(stretched((), num(3)), num(3), num(6)), ("touches", []))


if __name__ == "__main__":
    unittest.main()
