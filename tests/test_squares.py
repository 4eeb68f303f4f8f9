"""Points 20 and 22: squares of a curve, and its bound."""

import unittest
from fractions import Fraction
from random import Random

from helpers import at_roots, check_number, check_squares, count_of_places, cur, frac, num, powers, product, refused
from helpers import sum_of_squares, with_numbers_times
from neverbelow.errors import NoCurve, TooGreat
from neverbelow.squares import are_squares, bound, squares

HALF = Fraction(1, 2)
THIRD = Fraction(1, 3)
NINETEEN = 10 ** 19
TINY = Fraction(1, NINETEEN)
ROUND = cur(1, 0, 1)
ROOT_TWO = cur(-2, 0, 1)
GOLDEN = cur(-1, -1, 1)


class SquaresTest(unittest.TestCase):
    def check(self, curve):
        told = squares(curve)
        check_squares(self, curve, told)
        self.assertLessEqual(len(told), (len(curve) - 1) // 2 + 1)
        self.assertIs(are_squares(curve, told), True)

    def test_nought(self):
        self.assertEqual(squares(()), [])

    def test_degree_nought(self):
        for top in (1, 7, HALF, NINETEEN, TINY):
            self.check(cur(top))

    def test_degree_two(self):
        for curve in (
            ROUND, cur(0, 0, 1), cur(1, 1, 1), cur(Fraction(1, 7), 0, 3), at_roots(THIRD, THIRD), cur(5, -4, 1),
            with_numbers_times(at_roots(HALF, HALF), Fraction(2, 7)), cur(THIRD * THIRD + TINY, -2 * THIRD, 1),
        ):
            self.check(curve)

    def test_degree_four_above_nought(self):
        for curve in (
            cur(1, 0, 0, 0, 1), cur(1, 1, 1, 1, 1), cur(5, 1, 0, THIRD, 1), powers((ROUND,), (2,)),
            cur(1, 0, -1, 0, 1), product(ROUND, cur(5, 4, 1)), product(cur(1, 1, 1), cur(7, -5, 1)), cur(2, 0, 5, 0, 3),
            cur(1, 0, 1, 0, NINETEEN), cur(NINETEEN, 1, 0, 0, TINY), cur(1, 0, 100, 0, 1), cur(100, 1, -19, 0, 1),
            cur(3, -4, 0, 0, 2),
        ):
            self.check(curve)
            self.check(with_numbers_times(curve, Fraction(3, 7)))

    def test_twofold_places(self):
        for root in (0, 1, THIRD, Fraction(-7, 5)):
            self.check(at_roots(root, root))
            self.check(product(at_roots(root, root), ROUND))
            self.check(product(at_roots(root, root), cur(5, 4, 1)))
            self.check(at_roots(*[root] * 4))
            self.check(at_roots(root, root, HALF, HALF))
            self.check(with_numbers_times(at_roots(root, root, -4, -4), Fraction(5, 3)))

    def test_places_that_are_no_fractions(self):
        for curve in (ROOT_TWO, GOLDEN, cur(-1, 5, 3), cur(Fraction(-1, 3), 0, 1)):
            self.check(powers((curve,), (2,)))
            self.check(with_numbers_times(powers((curve,), (2,)), Fraction(2, 9)))

    def test_near_nought(self):
        for curve in (
            cur(4 + TINY, 0, -4, 0, 1), product(cur(THIRD * THIRD + TINY, -2 * THIRD, 1), ROUND),
            powers((cur(TINY, 0, 1),), (2,)), product(cur(TINY, 0, 1), cur(1 + TINY, -2, 1)),
            product(cur(TINY, 0, 1), at_roots(1, 1)), cur(1 + TINY, -4, 6, -4, 1), cur(TINY, 0, 0, 0, 1),
        ):
            self.check(curve)

    def test_made_of_squares(self):
        chance = Random(6)
        for again in range(60):
            tops = [Fraction(chance.randrange(-9, 10), chance.randrange(1, 5)) for place in range(5)]
            one = cur(tops[0], tops[1], 1)
            other = with_numbers_times(cur(tops[2], 1), tops[3])
            some = [(num(chance.randrange(1, 5)), one), (num(1), other if tops[3] else cur(1))]
            self.check(sum_of_squares(some))
            self.check(sum_of_squares(some + [(num(1, 7), cur(3))]))
            self.check(sum_of_squares(some[1:] + [(num(1, 7), cur(3))]))

    def test_twenty_figures(self):
        chance = Random(7)
        for again in range(12):
            tops = [chance.randrange(-10 ** 20 + 1, 10 ** 20) for place in range(5)]
            tops = [Fraction(top, chance.randrange(1, 10 ** 20)) for top in tops]
            curve = cur(abs(tops[0]), tops[1], 10 ** 20 - again, tops[3], abs(tops[4]))
            steep = cur(abs(tops[0]), Fraction(1, 10 ** 19), abs(tops[2]), Fraction(-1, 10 ** 19), abs(tops[4]))
            self.check(steep)
            try:
                self.check(curve)
            except NoCurve:
                self.assertGreater(count_of_places(curve, num(-10 ** 60), num(10 ** 60)), 0)

    def test_below_somewhere_refused(self):
        for curve in (
            cur(-1), cur(-TINY), cur(0, 0, -1), ROOT_TWO, GOLDEN, cur(-1, 0, -1), with_numbers_times(ROUND, -1),
            cur(0, 0, 0, 0, -1), cur(0, 0, -1, 0, 1), cur(0, 0, 1, 0, -TINY), cur(4 - TINY, 0, -4, 0, 1),
            at_roots(0, TINY), product(at_roots(THIRD, THIRD + TINY), ROUND), product(ROOT_TWO, ROUND),
            with_numbers_times(powers((ROOT_TWO,), (2,)), -1), at_roots(0, 0, THIRD, THIRD + TINY),
            at_roots(0, 0, 0, 1), at_roots(1, 2, 3, 4), cur(-TINY, 0, 0, 0, 1),
        ):
            refused(self, NoCurve, squares, curve)

    def test_odd_degrees_refused(self):
        for curve in (
            cur(0, 1), cur(0, -1), cur(5, TINY), cur(0, 0, 0, 1), cur(NINETEEN, 0, NINETEEN, 1),
            cur(NINETEEN, 0, NINETEEN, -TINY), product(ROUND, at_roots(0)), at_roots(1, 1, 1),
        ):
            refused(self, NoCurve, squares, curve)

    def test_degree_above_four_refused_ahead(self):
        for degree in range(5, 13):
            for last in (1, -1):
                refused(self, TooGreat, squares, cur(*[0] * degree + [last]))
                refused(self, TooGreat, squares, cur(*[1] * degree + [last]))
        refused(self, TooGreat, squares, powers((ROUND,), (3,)))


class AreSquaresTest(unittest.TestCase):
    SUM = [(num(2), cur(1, 1)), (num(1, 3), cur(0, 0, 0, 1))]
    CURVE = cur(2, 4, 2, 0, 0, 0, THIRD)

    def check(self, wanted, curve, some):
        self.assertIs(are_squares(curve, some), wanted, some)

    def test_squares_of_any_degree(self):
        self.check(True, self.CURVE, self.SUM)
        self.check(True, self.CURVE, self.SUM[::-1])
        self.check(True, cur(9), [(num(1), cur(3))])
        self.check(True, cur(9), [(num(1), cur(-3))])
        self.check(True, cur(9), [(num(9), cur(1))])
        self.check(True, cur(9), [(num(1), cur(1))] * 9)
        self.check(True, cur(*[0] * 12 + [5]), [(num(5), cur(0, 0, 0, 0, 0, 0, 1))])
        for degree in range(7):
            curves = [cur(*range(1, size + 2)) for size in range(degree + 1)]
            some = [(num(place + 1, 3), one) for place, one in enumerate(curves)]
            self.check(True, sum_of_squares(some), some)

    def test_more_of_them_than_are_told(self):
        self.check(True, cur(0, 0, 6), [(num(1), cur(0, 1)), (num(2), cur(0, 1)), (num(3), cur(0, -1))])

    def test_nought(self):
        self.check(True, (), [])
        self.check(False, (), [(num(1), cur(1))])
        self.check(False, (), [(num(1), ())])
        self.check(False, (), [(num(0), cur(1))])
        self.check(False, (), [(num(1), cur(1)), (num(-1), cur(1))])
        self.check(False, cur(1), [])
        self.check(False, ROUND, [])

    def test_a_weight_of_nought_or_below(self):
        self.check(False, self.CURVE, self.SUM + [(num(0), cur(1))])
        self.check(False, self.CURVE, [(num(0), cur(1))] + self.SUM)
        self.check(False, cur(-9), [(num(-1), cur(3))])
        self.check(False, cur(-1, 0, 1), [(num(1), cur(0, 1)), (num(-1), cur(1))])
        self.check(False, cur(3), [(num(4), cur(1)), (num(-1), cur(1))])
        self.check(False, self.CURVE, self.SUM + [(num(1, 7), cur(0, 1)), (num(-1, 7), cur(0, 1))])

    def test_nought_among_the_curves(self):
        self.check(False, self.CURVE, self.SUM + [(num(1), ())])
        self.check(False, self.CURVE, [(num(1), ())] + self.SUM)
        self.check(False, self.CURVE, [self.SUM[0], (num(1), ()), self.SUM[1]])

    def test_the_sum_is_another_curve(self):
        self.check(False, self.CURVE, self.SUM[:1])
        self.check(False, self.CURVE, self.SUM[1:])
        self.check(False, self.CURVE, self.SUM + self.SUM)
        self.check(False, self.CURVE, self.SUM + [(num(1, NINETEEN), cur(1))])
        self.check(False, with_numbers_times(self.CURVE, -1), self.SUM)
        self.check(False, cur(*[1] + [0] * 11 + [5]), [(num(5), cur(0, 0, 0, 0, 0, 0, 1))])
        self.check(False, cur(0, 1), [(num(1), cur(0, 1))])
        for degree in range(13):
            self.check(False, cur(*[1] * degree + [-1]), [(num(1), cur(0, 1)), (num(1), cur(2))])

    def test_squares_of_a_degree_too_great_for_any_curve(self):
        for degree in range(7, 13):
            great = cur(*[1] * (degree + 1))
            for curve in ((), cur(1), great, cur(*[1] * 13)):
                self.check(False, curve, [(num(1), great)])
                self.check(False, curve, [(num(1), cur(1)), (num(1), great), (num(-1), great)])


class BoundTest(unittest.TestCase):
    def check(self, curve):
        last = frac(curve[-1])
        found = bound(curve)
        check_number(self, found)
        self.assertEqual(frac(found), 1 + max(abs(frac(one) / last) for one in curve[:-1]))
        far = frac(found)
        self.assertEqual(count_of_places(curve, found, num(far * 10 ** 30)), 0)
        self.assertEqual(count_of_places(curve, num(-far * 10 ** 30), num(-far)), 0)

    def test_known(self):
        self.assertEqual(bound(cur(2, -3, 1)), num(4))
        self.assertEqual(bound(cur(2, -3, -6)), num(3, 2))
        self.assertEqual(bound(cur(Fraction(1, 2), Fraction(-1, 3), Fraction(1, 4))), num(3))
        self.assertEqual(bound(cur(0, 7)), num(1))
        self.assertEqual(bound(cur(0, 0, 0, -7)), num(1))
        self.assertEqual(bound(cur(-5, 7)), num(12, 7))
        self.assertEqual(bound(cur(5, 0, Fraction(-1, 3))), num(16))

    def test_of_degree_one_and_more(self):
        chance = Random(8)
        for degree in range(1, 13):
            for again in range(6):
                tops = [Fraction(chance.randrange(-20, 21), chance.randrange(1, 9)) for place in range(degree)]
                for last in (1, -1, Fraction(-2, 7), 30, TINY):
                    self.check(cur(*tops + [last]))

    def test_places_near_it(self):
        for often in range(1, 7):
            for root in (0, 1, -10, Fraction(1, 3)):
                self.check(at_roots(*[root] * often))

    def test_of_degree_nought(self):
        for top in (1, -1, 50, Fraction(-1, 3), NINETEEN):
            self.assertEqual(bound(cur(top)), num(1))

    def test_nought_refused(self):
        refused(self, NoCurve, bound, ())


if __name__ == "__main__":
    unittest.main()
