import unittest
from fractions import Fraction
from itertools import product as all_of

from helpers import at_roots, check_curve, cur, powers, product, refused, with_numbers_times
from neverbelow.common import common, plain, split
from neverbelow.errors import NoCurve

SIXTY = 10 ** 59 + 9
# No two of them have a part in common, and none holds another one squared.
FACTORS = (cur(-1, 1), cur(Fraction(1, 2), 1), cur(-2, 0, 1), cur(1, 1, 1))
OTHERS = (cur(0, 1), cur(-2, 0, 0, 1), cur(Fraction(-SIXTY, 7), 1), cur(Fraction(3, SIXTY), 0, 1))
AHEAD = (Fraction(1), Fraction(-1), Fraction(-5, 7), Fraction(SIXTY, 3))
ONE_ALONE = cur(1)


def exponents(most, degree):
    """Each way to take the factors up to so many times, up to the degree in all."""
    for often in all_of(range(most + 1), repeat=len(FACTORS)):
        if sum(times * (len(factor) - 1) for times, factor in zip(often, FACTORS)) <= degree:
            yield often


class CommonTest(unittest.TestCase):
    def check_both_ways(self, one, other, wanted):
        for told in (common(one, other), common(other, one)):
            check_curve(self, told)
            self.assertEqual(told, wanted)

    def test_plain_ones(self):
        self.check_both_ways(cur(-1, 0, 1), cur(1, -2, 1), cur(-1, 1))
        self.check_both_ways(cur(2, -3, 1), cur(6, -5, 1), cur(-2, 1))

    def test_each_factor_as_often_as_it_stands_in_both(self):
        ways = list(exponents(2, 6))
        for place, one in enumerate(ways):
            for other in ways[place::5]:
                wanted = powers(FACTORS, [min(pair) for pair in zip(one, other)])
                first = with_numbers_times(powers(FACTORS, one), Fraction(-3, 4))
                second = with_numbers_times(powers(FACTORS, other), Fraction(7, 2))
                self.check_both_ways(first, second, wanted)

    def test_up_to_degree_twelve(self):
        for one, other in (((5, 3, 1, 1), (2, 6, 2, 0)), ((12, 0, 0, 0), (7, 5, 0, 0)), ((0, 0, 6, 0), (0, 0, 4, 2))):
            wanted = powers(FACTORS, [min(pair) for pair in zip(one, other)])
            self.check_both_ways(powers(FACTORS, one), powers(FACTORS, other), wanted)

    def test_many_figures(self):
        for one, other in (((1, 1, 2, 1), (1, 0, 1, 2)), ((0, 2, 1, 2), (3, 0, 2, 1))):
            wanted = powers(OTHERS, [min(pair) for pair in zip(one, other)])
            first = with_numbers_times(powers(OTHERS, one), Fraction(SIXTY, 11))
            self.check_both_ways(first, powers(OTHERS, other), wanted)

    def test_nothing_in_common(self):
        self.check_both_ways(cur(-2, 0, 1), cur(-3, 0, 1), ONE_ALONE)
        self.check_both_ways(cur(1, 0, 0, 0, 0, 0, 0, 0, 0, 0, 0, 0, 1), cur(0, 5), ONE_ALONE)
        for curve in FACTORS + OTHERS:
            for top in AHEAD:
                self.check_both_ways(curve, cur(top), ONE_ALONE)
        self.check_both_ways(cur(6), cur(-4), ONE_ALONE)

    def test_of_a_curve_and_itself(self):
        for ahead in AHEAD:
            curve = powers(FACTORS, (2, 1, 1, 0))
            changed = with_numbers_times(curve, ahead)
            self.check_both_ways(changed, changed, curve)
            self.check_both_ways(changed, curve, curve)

    def test_of_one_that_divides_the_other(self):
        small = powers(FACTORS, (1, 1, 0, 1))
        self.check_both_ways(product(small, cur(5, -1), cur(3, 0, 4)), with_numbers_times(small, -2), small)

    def test_with_nought(self):
        for factor in FACTORS + OTHERS + (ONE_ALONE,):
            for ahead in AHEAD:
                self.check_both_ways(with_numbers_times(factor, ahead), (), factor)
        self.check_both_ways(cur(4, 0, -6), (), cur(Fraction(-2, 3), 0, 1))

    def test_of_nought_and_nought(self):
        self.assertEqual(common((), ()), ())


class PlainTest(unittest.TestCase):
    def check(self, factors, often, ahead):
        told = plain(with_numbers_times(powers(factors, often), ahead))
        check_curve(self, told)
        self.assertEqual(told, powers(factors, [min(times, 1) for times in often]))
        self.assertEqual(plain(told), told)

    def test_plain_ones(self):
        self.assertEqual(plain(cur(1, -2, 1)), cur(-1, 1))
        self.assertEqual(plain(cur(4, 0, -4, 0, 1)), cur(-2, 0, 1))
        self.assertEqual(plain(cur(0, 0, 0, Fraction(-1, 3))), cur(0, 1))
        self.assertEqual(plain(cur(6, 0, -3)), cur(-2, 0, 1))

    def test_each_factor_once(self):
        for place, often in enumerate(exponents(4, 12)):
            self.check(FACTORS, often, AHEAD[place % len(AHEAD)])

    def test_many_figures(self):
        for often in ((1, 1, 1, 1), (2, 0, 3, 2), (0, 2, 2, 0), (6, 0, 0, 3)):
            self.check(OTHERS, often, Fraction(-SIXTY, 13))

    def test_degree_nought(self):
        for top in AHEAD:
            self.assertEqual(plain(cur(top)), ONE_ALONE)

    def test_of_nought_refused(self):
        refused(self, NoCurve, plain, ())


class SplitTest(unittest.TestCase):
    def check(self, factors, often, ahead):
        curve = with_numbers_times(powers(factors, often), ahead)
        told = split(curve)
        self.assertIs(type(told), tuple)
        self.assertEqual(len(told), 2)
        check_curve(self, told[0])
        check_curve(self, told[1])
        self.assertEqual(product(told[0], told[0], told[1]), curve)
        self.assertEqual(told[0], powers(factors, [times // 2 for times in often]))
        self.assertEqual(told[1], with_numbers_times(powers(factors, [times % 2 for times in often]), ahead))

    def test_plain_ones(self):
        self.assertEqual(split(cur(3, -6, 3)), (cur(-1, 1), cur(3)))
        self.assertEqual(split(cur(0, 0, 0, -2)), (cur(0, 1), cur(0, -2)))
        self.assertEqual(split(cur(-2, 0, 1)), (ONE_ALONE, cur(-2, 0, 1)))

    def test_one_up_to_six_times(self):
        for often in range(7):
            for ahead in AHEAD:
                self.check(FACTORS, (often, 0, 0, 0), ahead)
                self.check(FACTORS, (0, 0, often, 0), ahead)
                self.check(FACTORS, (1, often, 2, 0), ahead)

    def test_up_to_twelve_times(self):
        for often in range(7, 13):
            self.check(FACTORS, (often, 0, 0, 0), Fraction(-3))

    def test_all_ways(self):
        for place, often in enumerate(exponents(6, 12)):
            if place % 3 == 0:
                self.check(FACTORS, often, AHEAD[place % len(AHEAD)])

    def test_all_twofold(self):
        self.check(FACTORS, (2, 2, 2, 2), Fraction(-1))
        self.check(FACTORS, (2, 2, 2, 2), Fraction(9, 4))

    def test_odd_ones(self):
        self.check(FACTORS, (1, 3, 1, 1), Fraction(-2))
        self.check(FACTORS, (5, 1, 3, 0), Fraction(2))
        self.check(FACTORS, (1, 1, 1, 1), Fraction(-7))

    def test_many_figures(self):
        for often in ((3, 0, 1, 2), (0, 2, 2, 0), (1, 1, 2, 3)):
            self.check(OTHERS, often, Fraction(-SIXTY, 13))

    def test_numbers_ahead_are_not_split(self):
        self.assertEqual(split(cur(9)), (ONE_ALONE, cur(9)))
        self.assertEqual(split(cur(Fraction(-1, 4))), (ONE_ALONE, cur(Fraction(-1, 4))))
        self.assertEqual(split(with_numbers_times(at_roots(2, 2), 4)), (cur(-2, 1), cur(4)))

    def test_of_nought_refused(self):
        refused(self, NoCurve, split, ())


if __name__ == "__main__":
    unittest.main()
