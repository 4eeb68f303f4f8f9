import unittest
from fractions import Fraction

from helpers import at_roots, clear, cur, num, place, refused, with_numbers_times
from neverbelow.errors import NoStretch
from neverbelow.maps import holds

HALF = Fraction(1, 2)
ROOT_TWO = cur(-2, 0, 1)
TOUCH_AT_ONE = cur(1, -2, 1)


def root_two_rows():
    return [clear(0, 1, -2, -2, -1), place(1, 2, 2, 4), clear(2, 3, 2, 4, 7)]


def touch_rows():
    return [clear(0, 1, 1, 0, 0), place(1, 1), clear(1, 2, 0, 0, 1)]


class HoldsTest(unittest.TestCase):
    def check(self, wanted, curve, low, high, rows):
        self.assertIs(holds(curve, num(low), num(high), rows), wanted, rows)

    def check_put(self, wanted, curve, low, high, rows, at, row):
        changed = list(rows)
        changed[at] = row
        self.check(wanted, curve, low, high, changed)

    def check_fits(self):
        """What the broken maps are broken from: these hold."""
        self.check(True, ROOT_TWO, 0, 3, root_two_rows())
        self.check(True, TOUCH_AT_ONE, 0, 2, touch_rows())

    def test_one_row(self):
        self.check(True, cur(5), -1, 1, [clear(-1, 1, 5)])
        self.check(True, cur(-HALF), -1, 1, [clear(-1, 1, -HALF)])
        self.check(True, cur(1, 0, 1), 0, 1, [clear(0, 1, 1, 1, 2)])
        self.check(True, ROOT_TWO, 1, 2, [place(1, 2, 2, 4)])

    def test_places_of_both_kinds(self):
        self.check_fits()
        self.check(True, cur(-1, 1), 0, 2, [place(0, 2, 1)])
        self.check(True, cur(-1, 1), 0, 2, [clear(0, 1, -1, 0), place(1, 1), clear(1, 2, 0, 1)])

    def test_places_at_both_ends(self):
        rows = [place(0, 0), clear(0, 1, 0, -HALF, 0), place(1, 1)]
        self.check(True, cur(0, -1, 1), 0, 1, rows)

    def test_places_one_behind_the_other(self):
        self.check(True, cur(-1, 0, 1), -2, 2, [place(-2, 0, -4, 0), place(0, 2, 0, 4)])

    def test_more_rows_than_needed(self):
        half = [clear(0, HALF, -2, -2, Fraction(-7, 4)), clear(HALF, 1, Fraction(-7, 4), Fraction(-3, 2), -1)]
        self.check(True, ROOT_TWO, 0, 3, half + root_two_rows()[1:])
        self.check(True, cur(3), 0, 3, [clear(0, 1, 3), clear(1, 2, 3), clear(2, 3, 3)])

    def test_place_rows_ask_the_plain_part(self):
        curve = cur(12, 0, -12, 0, 3)
        rows = [clear(0, 1, 12, 12, 10, 6, 3), place(1, 2, 2, 4), clear(2, 3, 12, 24, 46, 84, 147)]
        self.check(True, curve, 0, 3, rows)
        self.check_put(False, curve, 0, 3, rows, 1, place(1, 2, 6, 12))
        self.check_put(False, curve, 0, 3, rows, 1, place(1, 2, -12, -8, 8, 48))
        self.check_put(False, curve, 0, 3, rows, 0, clear(0, 1, -2, -2, -1))
        self.check_put(False, curve, 0, 3, rows, 0, clear(0, 1, 4, 4, Fraction(10, 3), 2, 1))

    def test_no_rows(self):
        self.check(False, cur(5), 0, 1, [])
        self.check(False, ROOT_TWO, 0, 3, [])

    def test_first_start_that_is_another_one(self):
        self.check_fits()
        self.check(False, ROOT_TWO, -1, 3, root_two_rows())
        self.check(False, ROOT_TWO, HALF, 3, root_two_rows())
        self.check(False, ROOT_TWO, 0, 3, root_two_rows()[1:])

    def test_last_end_that_is_another_one(self):
        self.check_fits()
        self.check(False, ROOT_TWO, 0, 4, root_two_rows())
        self.check(False, ROOT_TWO, 0, Fraction(5, 2), root_two_rows())
        self.check(False, ROOT_TWO, 0, 3, root_two_rows()[:2])

    def test_gap(self):
        self.check_fits()
        rows = root_two_rows()
        self.check_put(False, ROOT_TWO, 0, 3, rows, 0, clear(0, HALF, -2, -2, Fraction(-7, 4)))
        self.check(False, ROOT_TWO, 0, 3, [rows[0], rows[2]])
        self.check(False, cur(3), 0, 3, [clear(0, 1, 3), clear(2, 3, 3)])

    def test_rows_that_lie_over_one_another(self):
        self.check(False, cur(3), 0, 3, [clear(0, 2, 3), clear(1, 3, 3)])
        self.check(False, cur(3), 0, 3, [clear(0, 3, 3), clear(0, 3, 3)])
        self.check(False, ROOT_TWO, 0, 3, [root_two_rows()[0]] + root_two_rows())

    def test_clear_row_with_start_not_less_than_end(self):
        self.check_fits()
        self.check(False, cur(3), 0, 1, [clear(0, 1, 3), clear(1, 1, 3)])
        self.check(False, cur(3), 0, 1, [clear(0, 0, 3), clear(0, 1, 3)])
        self.check(False, cur(3), 0, 1, [clear(0, 2, 3), clear(2, 1, 3)])
        self.check(False, cur(1, 1), 0, 1, [clear(0, 1, 1, 2), clear(1, 0, 2, 1), clear(0, 1, 1, 2)])
        self.check(False, ROOT_TWO, 0, 3, root_two_rows()[:1] + [clear(1, 1, -1, -1, -1)] + root_two_rows()[1:])

    def test_place_row_with_start_not_less_than_end(self):
        self.check_fits()
        there_and_back = [place(1, 2, 2, 4), place(2, 1, 4, 2), place(1, 2, 2, 4)]
        self.check(False, ROOT_TWO, 1, 2, there_and_back)

    def test_other_numbers_than_the_mixing_numbers(self):
        self.check_fits()
        rows = root_two_rows()
        for numbers in ((-2, -2, -2), (-2, -1, -1), (-1, -2, -1), (-1, -2, -2), (-4, -4, -2), (2, 2, 1), ()):
            self.check_put(False, ROOT_TWO, 0, 3, rows, 0, clear(0, 1, *numbers))
        for numbers in ((2, 3), (1, 4), (4, 2), (1, 2), (-2, -4), (), (-1, 0, 2)):
            self.check_put(False, ROOT_TWO, 0, 3, rows, 1, place(1, 2, *numbers))
        for numbers in ((2, 4, 6), (2, 5, 7), (3, 4, 7), (0, 0, 0)):
            self.check_put(False, ROOT_TWO, 0, 3, rows, 2, clear(2, 3, *numbers))

    def test_numbers_for_another_degree(self):
        self.check_fits()
        rows = root_two_rows()
        raised = clear(0, 1, -2, -2, Fraction(-5, 3), -1)
        self.check_put(False, ROOT_TWO, 0, 3, rows, 0, raised)
        self.check_put(False, ROOT_TWO, 0, 3, rows, 1, place(1, 2, 2, 3, 4))
        self.check(False, cur(3), 0, 1, [clear(0, 1, 3, 3)])
        self.check(False, cur(-1, 1), 0, 2, [place(0, 2, 1, 1)])

    def test_clear_numbers_whose_sign_is_nought(self):
        above = cur(Fraction(5, 4), -2, 1)
        self.check(False, above, 0, 2, [clear(0, 2, Fraction(5, 4), Fraction(-3, 4), Fraction(5, 4))])
        halves = [clear(0, 1, Fraction(5, 4), Fraction(1, 4), Fraction(1, 4))]
        halves = halves + [clear(1, 2, Fraction(1, 4), Fraction(1, 4), Fraction(5, 4))]
        self.check(True, above, 0, 2, halves)
        self.check(False, cur(0, 1), -1, 1, [clear(-1, 1, -1, 1)])
        self.check(False, ROOT_TWO, 1, 2, [clear(1, 2, -1, 0, 2)])

    def test_place_numbers_whose_sign_is_nought(self):
        once = cur(1, -1, 0, 1)
        self.check(False, once, -2, 2, [place(-2, 2, 11, -13, 11)])
        thrice = cur(0, -1, 0, 1)
        self.check(False, thrice, -2, 2, [place(-2, 2, 11, -13, 11)])
        self.check(True, once, -2, -1, [place(-2, -1, 11, 5, 2)])

    def test_point_where_the_curve_is_not_nought(self):
        rows = [clear(0, 1, 3), clear(1, 2, 3)]
        self.check(True, cur(3), 0, 2, rows)
        self.check(False, cur(3), 0, 2, [rows[0], place(1, 1), rows[1]])
        self.check(False, cur(3), 0, 2, [place(0, 0)] + rows)
        self.check(False, cur(3), 0, 2, rows + [place(2, 2)])
        self.check_fits()
        self.check(False, ROOT_TWO, 0, 3, root_two_rows()[:1] + [place(1, 1)] + root_two_rows()[1:])

    def test_point_with_numbers(self):
        self.check_fits()
        for numbers in ((0,), (1,), (2,), (0, 0, 0), (1, 1)):
            self.check_put(False, TOUCH_AT_ONE, 0, 2, touch_rows(), 1, place(1, 1, *numbers))

    def test_place_row_at_one_of_whose_ends_the_curve_is_nought(self):
        line = cur(-1, 1)
        self.check(False, line, 0, 2, [clear(0, 1, -1, 0), place(1, 1), place(1, 2, 1)])
        self.check(False, line, 0, 2, [place(0, 1, 1), place(1, 1), clear(1, 2, 0, 1)])
        self.check(False, line, 0, 1, [place(0, 1, 1)])
        self.check(False, line, 1, 2, [place(1, 2, 1)])
        self.check(False, cur(-1, 0, 1), -1, 1, [place(-1, 0, -2, 0), place(0, 1, 0, 2)])

    def test_ends_with_like_signs(self):
        self.check(False, cur(1, 0, 1), 1, 2, [place(1, 2, 2, 4)])
        self.check(False, cur(-5, 0, 1), 1, 2, [place(1, 2, 2, 4)])
        self.check(False, with_numbers_times(cur(1, 0, 1), -1), 1, 2, [place(1, 2, 2, 4)])
        self.check(False, cur(4), 1, 2, [place(1, 2)])

    def test_lacking_point_between_clear_rows(self):
        self.check_fits()
        rows = touch_rows()
        self.check(False, TOUCH_AT_ONE, 0, 2, [rows[0], rows[2]])
        self.check(False, cur(-1, 1), 0, 2, [clear(0, 1, -1, 0), clear(1, 2, 0, 1)])

    def test_lacking_point_at_low_or_high(self):
        line = cur(0, 1)
        self.check(True, line, 0, 1, [place(0, 0), clear(0, 1, 0, 1)])
        self.check(False, line, 0, 1, [clear(0, 1, 0, 1)])
        self.check(True, line, -1, 0, [clear(-1, 0, -1, 0), place(0, 0)])
        self.check(False, line, -1, 0, [clear(-1, 0, -1, 0)])
        both = [place(0, 0), clear(0, 1, 0, -HALF, 0), place(1, 1)]
        self.check(False, cur(0, -1, 1), 0, 1, both[1:])
        self.check(False, cur(0, -1, 1), 0, 1, both[:2])

    def test_point_twice(self):
        self.check_fits()
        rows = touch_rows()
        self.check(False, TOUCH_AT_ONE, 0, 2, rows[:2] + rows[1:])
        self.check(False, TOUCH_AT_ONE, 0, 2, rows[:2] + [place(1, 1)] + rows[1:])
        self.check(False, cur(0, 1), 0, 1, [place(0, 0), place(0, 0), clear(0, 1, 0, 1)])
        self.check(False, cur(0, 1), -1, 0, [clear(-1, 0, -1, 0), place(0, 0), place(0, 0)])

    def test_points_apart_are_no_fault(self):
        curve = at_roots(0, 1, 2)
        rows = [place(0, 0), clear(0, 1, 0, Fraction(2, 3), Fraction(1, 3), 0), place(1, 1)]
        rows = rows + [clear(1, 2, 0, Fraction(-1, 3), Fraction(-2, 3), 0), place(2, 2)]
        self.check(True, curve, 0, 2, rows)

    def test_map_of_another_curve(self):
        self.check_fits()
        for curve in (cur(-3, 0, 1), cur(2, 0, -1), cur(-4, 0, 2), cur(-2, 0, 1, 1), cur(-2, 1), cur(4, 0, -4, 0, 1)):
            self.check(False, curve, 0, 3, root_two_rows())

    def test_no_stretch_refused(self):
        refused(self, NoStretch, holds, ROOT_TWO, num(3), num(0), root_two_rows())
        refused(self, NoStretch, holds, cur(-1, 1), num(1), num(1), [place(1, 1)])


if __name__ == "__main__":
    unittest.main()
