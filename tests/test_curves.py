import unittest
from fractions import Fraction

from helpers import check_curve, check_number, cur, frac, num, nums, worth_by_powers
from neverbelow.curves import (
    added, curve_of, divided, moved, multiplied, scaled, slope, stretched, taken, worth,
)
from neverbelow.errors import NoCurve, NoNumber, TooGreat

HALF = Fraction(1, 2)
THIRTY = 123456789012345678901234567890
SIXTY = 10 ** 59 + 9

CURVES = (
    (),
    cur(5),
    cur(Fraction(-2, 3)),
    cur(0, 1),
    cur(-1, 1),
    cur(2, -3, 1),
    cur(0, 0, 4),
    cur(1, 0, -HALF, 3),
    cur(Fraction(7, 5), -1, 0, 0, Fraction(-2, 9)),
    cur(THIRTY, Fraction(-1, THIRTY), 3),
    cur(SIXTY, 0, Fraction(SIXTY, 7), Fraction(-3, SIXTY)),
    cur(1, -1, 2, -2, 3, -3, 4, -4, 5, -5, 6, -6, 7),
    cur(*[0] * 12 + [-1]),
)
PLACES = tuple(nums(0, 1, -1, 2, HALF, -HALF, Fraction(7, 3), Fraction(-11, 4), THIRTY, Fraction(-1, SIXTY)))
FACTORS = tuple(one for one in PLACES if one != (0, 1))


class CurveOfTest(unittest.TestCase):
    def test_noughts_at_the_end_left_out(self):
        self.assertEqual(curve_of(nums(1, 2, 0, 0)), ((1, 1), (2, 1)))
        self.assertEqual(curve_of(nums(HALF)), ((1, 2),))

    def test_noughts_within_kept(self):
        self.assertEqual(curve_of(nums(0, 0, 3, 0, -1, 0)), cur(0, 0, 3, 0, -1))

    def test_nought_alone(self):
        self.assertEqual(curve_of([]), ())
        self.assertEqual(curve_of(nums(0)), ())
        self.assertEqual(curve_of(nums(*[0] * 13)), ())
        self.assertEqual(curve_of(nums(*[0] * 100)), ())

    def test_thirteen_numbers(self):
        thirteen = nums(*range(1, 14))
        self.assertEqual(curve_of(thirteen), tuple(thirteen))
        self.assertEqual(curve_of(thirteen + nums(0)), tuple(thirteen))
        self.assertEqual(curve_of(thirteen + nums(*[0] * 87)), tuple(thirteen))

    def test_more_than_thirteen_refused(self):
        for numbers in (nums(*range(1, 15)), nums(*[0] * 13 + [1]), nums(*[0] * 99 + [-HALF]), nums(*[1] * 14 + [0])):
            with self.assertRaises(TooGreat):
                curve_of(numbers)

    def test_list_stays_and_is_taken_as_it_is_then(self):
        numbers = nums(1, 2, 0)
        told = curve_of(numbers)
        self.assertEqual(numbers, nums(1, 2, 0))
        numbers[0] = num(9)
        numbers.append(num(4))
        self.assertEqual(told, cur(1, 2))

    def test_form(self):
        for curve in CURVES:
            told = curve_of(list(curve))
            check_curve(self, told)
            self.assertEqual(told, curve)


class WorthTest(unittest.TestCase):
    def test_plain_worths(self):
        self.assertEqual(worth(cur(2, -3, 1), num(5)), (12, 1))
        self.assertEqual(worth(cur(1, 0, 3), num(1, 2)), (7, 4))
        self.assertEqual(worth(cur(0, 0, 0, 1), num(-2)), (-8, 1))

    def test_nought_everywhere(self):
        for x in PLACES:
            self.assertEqual(worth((), x), (0, 1))

    def test_degree_nought(self):
        for x in PLACES:
            self.assertEqual(worth(cur(HALF), x), (1, 2))

    def test_at_nought(self):
        for curve in CURVES:
            self.assertEqual(worth(curve, num(0)), curve[0] if curve else (0, 1))

    def test_where_the_curve_is_nought(self):
        self.assertEqual(worth(cur(2, -3, 1), num(1)), (0, 1))
        self.assertEqual(worth(cur(2, -3, 1), num(2)), (0, 1))
        self.assertEqual(worth(cur(1, 2), num(-1, 2)), (0, 1))

    def test_against_powers(self):
        for curve in CURVES:
            for x in PLACES:
                told = worth(curve, x)
                check_number(self, told)
                self.assertEqual(frac(told), worth_by_powers(curve, x))


class SumsTest(unittest.TestCase):
    def check_worths(self, own, wanted):
        for one in CURVES:
            for other in CURVES:
                told = own(one, other)
                check_curve(self, told)
                for x in PLACES:
                    got = worth_by_powers(told, x)
                    self.assertEqual(got, wanted(worth_by_powers(one, x), worth_by_powers(other, x)))

    def test_added(self):
        self.assertEqual(added(cur(1, 2), cur(3, 4, 5)), cur(4, 6, 5))
        self.assertEqual(added(cur(3, 4, 5), cur(1, 2)), cur(4, 6, 5))
        self.check_worths(added, lambda one, other: one + other)

    def test_added_noughts_left_out(self):
        self.assertEqual(added(cur(1, 2, 3), cur(1, -2, -3)), cur(2))
        self.assertEqual(added(cur(1, 2), cur(-1, -2)), ())
        self.assertEqual(added((), ()), ())
        self.assertEqual(added(cur(1, 2), ()), cur(1, 2))
        self.assertEqual(added((), cur(1, 2)), cur(1, 2))

    def test_taken(self):
        self.assertEqual(taken(cur(1, 2), cur(3, 4, 5)), cur(-2, -2, -5))
        self.assertEqual(taken(cur(3, 4, 5), cur(1, 2)), cur(2, 2, 5))
        self.check_worths(taken, lambda one, other: one - other)

    def test_taken_noughts_left_out(self):
        self.assertEqual(taken(cur(1, 2, 3), cur(0, 2, 3)), cur(1))
        self.assertEqual(taken((), ()), ())
        self.assertEqual(taken(cur(1, 2), ()), cur(1, 2))
        self.assertEqual(taken((), cur(1, 2)), cur(-1, -2))
        for curve in CURVES:
            self.assertEqual(taken(curve, curve), ())


class ProductsTest(unittest.TestCase):
    def test_multiplied(self):
        self.assertEqual(multiplied(cur(-1, 1), cur(1, 1)), cur(-1, 0, 1))
        self.assertEqual(multiplied(cur(HALF), cur(2, 4)), cur(1, 2))
        for one in CURVES:
            for other in CURVES:
                if len(one) + len(other) <= 14:
                    told = multiplied(one, other)
                    check_curve(self, told)
                    for x in PLACES:
                        wanted = worth_by_powers(one, x) * worth_by_powers(other, x)
                        self.assertEqual(worth_by_powers(told, x), wanted)

    def test_multiplied_with_nought(self):
        for curve in CURVES:
            self.assertEqual(multiplied(curve, ()), ())
            self.assertEqual(multiplied((), curve), ())

    def test_product_of_just_thirteen_numbers(self):
        self.assertEqual(multiplied(cur(0, 0, 0, 0, 0, 0, 2), cur(0, 0, 0, 0, 0, 0, 3)), cur(*[0] * 12 + [6]))
        self.assertEqual(multiplied(cur(*range(1, 14)), cur(2)), cur(*range(2, 28, 2)))
        self.assertEqual(len(multiplied(cur(*[1] * 12), cur(1, 1))), 13)

    def test_product_of_more_refused(self):
        for one, other in (
            (cur(*[1] * 13), cur(0, 1)), (cur(0, 1), cur(*[1] * 13)),
            (cur(*[1] * 7), cur(*[1] * 8)), (cur(*[1] * 13), cur(*[1] * 13)),
        ):
            with self.assertRaises(TooGreat):
                multiplied(one, other)

    def test_scaled(self):
        self.assertEqual(scaled(cur(1, -2, 3), num(-1, 2)), cur(-HALF, 1, Fraction(-3, 2)))
        for curve in CURVES:
            self.assertEqual(scaled(curve, num(0)), ())
            self.assertEqual(scaled(curve, num(1)), curve)
            for k in FACTORS:
                told = scaled(curve, k)
                check_curve(self, told)
                self.assertEqual([frac(one) for one in told], [frac(one) * frac(k) for one in curve])

    def test_slope(self):
        self.assertEqual(slope(cur(5, 4, 3, 2)), cur(4, 6, 6))
        self.assertEqual(slope(cur(0, 0, 0, Fraction(1, 3))), cur(0, 0, 1))
        for curve in CURVES:
            told = slope(curve)
            check_curve(self, told)
            wanted = [frac(one) * place for place, one in enumerate(curve)][1:]
            self.assertEqual([frac(one) for one in told], wanted)

    def test_slope_of_degree_nought_and_of_nought(self):
        self.assertEqual(slope(cur(7)), ())
        self.assertEqual(slope(()), ())


class MovedTest(unittest.TestCase):
    def test_plain(self):
        self.assertEqual(moved(cur(0, 0, 1), num(1)), cur(1, -2, 1))
        self.assertEqual(moved(cur(0, 1), num(-3, 2)), cur(Fraction(3, 2), 1))

    def test_worths_at_places(self):
        for curve in CURVES:
            for c in PLACES:
                told = moved(curve, c)
                check_curve(self, told)
                for x in PLACES:
                    self.assertEqual(worth_by_powers(told, x), worth_by_powers(curve, num(frac(x) - frac(c))))

    def test_by_nought(self):
        for curve in CURVES:
            self.assertEqual(moved(curve, num(0)), curve)

    def test_there_and_back_again(self):
        for curve in CURVES:
            for c in PLACES:
                self.assertEqual(moved(moved(curve, c), num(-frac(c))), curve)

    def test_of_nought(self):
        for c in PLACES:
            self.assertEqual(moved((), c), ())


class StretchedTest(unittest.TestCase):
    def test_plain(self):
        self.assertEqual(stretched(cur(1, 1, 1), num(2)), cur(1, HALF, Fraction(1, 4)))
        self.assertEqual(stretched(cur(1, 1, 1), num(-1, 3)), cur(1, -3, 9))

    def test_worths_at_places(self):
        for curve in CURVES:
            for k in FACTORS:
                told = stretched(curve, k)
                check_curve(self, told)
                for x in PLACES:
                    self.assertEqual(worth_by_powers(told, x), worth_by_powers(curve, num(frac(x) / frac(k))))

    def test_by_one(self):
        for curve in CURVES:
            self.assertEqual(stretched(curve, num(1)), curve)

    def test_there_and_back_again(self):
        for curve in CURVES:
            for k in FACTORS:
                self.assertEqual(stretched(stretched(curve, k), num(1 / frac(k))), curve)

    def test_of_nought(self):
        for k in FACTORS:
            self.assertEqual(stretched((), k), ())

    def test_by_nought_refused(self):
        for curve in CURVES:
            with self.assertRaises(NoNumber):
                stretched(curve, num(0))


class DividedTest(unittest.TestCase):
    def test_plain(self):
        self.assertEqual(divided(cur(1, 0, 0, 1), cur(-1, 1)), (cur(1, 1, 1), cur(2)))
        self.assertEqual(divided(cur(3, 2, 5, 4), cur(1, 0, 2)), (cur(Fraction(5, 2), 2), cur(HALF)))

    def test_comes_back_to_the_curve(self):
        for curve in CURVES:
            for by in CURVES:
                if by:
                    told = divided(curve, by)
                    self.assertIs(type(told), tuple)
                    self.assertEqual(len(told), 2)
                    check_curve(self, told[0])
                    check_curve(self, told[1])
                    self.assertLess(len(told[1]), len(by))
                    self.assertEqual(added(multiplied(told[0], by), told[1]), curve)

    def test_without_rest(self):
        for one in CURVES:
            for by in CURVES:
                if by and len(one) + len(by) <= 14:
                    self.assertEqual(divided(multiplied(one, by), by), (one, ()))

    def test_rest_shorter_by_more_than_one(self):
        self.assertEqual(divided(cur(1, 0, 0, 0, 1), cur(0, 0, 0, 1)), (cur(0, 1), cur(1)))

    def test_noughts_within_the_quotient(self):
        self.assertEqual(divided(cur(-1, 0, 0, 0, 1), cur(1, 0, 1)), (cur(-1, 0, 1), ()))

    def test_of_a_lower_degree(self):
        self.assertEqual(divided(cur(1, 2), cur(0, 0, 5)), ((), cur(1, 2)))
        self.assertEqual(divided(cur(7), cur(0, 1)), ((), cur(7)))

    def test_by_degree_nought(self):
        for curve in CURVES:
            self.assertEqual(divided(curve, cur(Fraction(-2, 3))), (scaled(curve, num(-3, 2)), ()))

    def test_of_nought(self):
        for by in CURVES:
            if by:
                self.assertEqual(divided((), by), ((), ()))

    def test_by_nought_refused(self):
        for curve in CURVES:
            with self.assertRaises(NoCurve):
                divided(curve, ())


class BigNumbersTest(unittest.TestCase):
    def test_as_many_figures_as_needed(self):
        curve = cur(*[Fraction(SIXTY + place, 10 ** 59 + 2 * place + 1) for place in range(13)])
        x = num(SIXTY, 10 ** 59 + 33)
        self.assertEqual(frac(worth(curve, x)), worth_by_powers(curve, x))
        there = moved(curve, x)
        self.assertEqual(moved(there, num(-frac(x))), curve)
        self.assertEqual(worth(there, num(2 * frac(x))), worth(curve, x))
        quotient, rest = divided(curve, curve[:7])
        self.assertEqual(added(multiplied(quotient, curve[:7]), rest), curve)


if __name__ == "__main__":
    unittest.main()
