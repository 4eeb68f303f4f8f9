"""Point 23: least and greatest worths of a curve on a stretch."""

import unittest
from fractions import Fraction
from random import Random

from helpers import at_roots, check_number, check_verdict, cur, frac, less_number, num, powers, product, refused
from helpers import with_numbers_times, worth_by_powers
from neverbelow.errors import NoNear, NoStretch, TooGreat
from neverbelow.extremes import greatest, least
from neverbelow.verdicts import shown

HALF = Fraction(1, 2)
THIRD = Fraction(1, 3)
SIXTY = 10 ** 59 + 9
NINETEEN = 10 ** 19
ROOT_TWO = cur(-2, 0, 1)
ROUND = cur(1, 0, 1)
# Worths from -1 to 1 for places from -1 to 1, each of both at several places.
WAVES = cur(-1, 0, 18, 0, -48, 0, 32)
NEARS = (1, Fraction(1, 100), Fraction(3, 7), 10 ** 30, Fraction(1, 10 ** 25), Fraction(1, SIXTY), SIXTY)
NO_STRETCHES = ((num(1), num(1)), (num(1), num(0)), (num(-1, 3), num(-1, 2)))
NO_NEARS = (num(0), num(-1), num(-1, SIXTY))


class ExtremesTest(unittest.TestCase):
    def check_told(self, told, off, curve, low, high, near):
        """Told is of this curve, or of the greatest one with its sign the other way about; off is the floor of it."""
        self.assertIs(type(told), tuple)
        self.assertEqual(len(told), 3)
        check_number(self, told[0])
        check_number(self, told[1])
        self.assertTrue(low <= frac(told[1]) <= high)
        fall = worth_by_powers(curve, told[1]) - off
        self.assertTrue(0 <= fall <= near, (curve, low, high, near))
        left = less_number(curve, off)
        check_verdict(self, left, num(low), num(high), told[2])
        self.assertNotEqual(told[2][0], "below")
        self.assertIs(shown(left, num(low), num(high), told[2]), True)

    def check(self, curve, low, high, near, known=None, known_greatest=None):
        """Known are the least and greatest worths, where they are fractions."""
        told = least(curve, num(low), num(high), num(near))
        self.check_told(told, frac(told[0]), curve, low, high, near)
        if known is not None:
            self.assertTrue(known - near <= frac(told[0]) <= known)
        told = greatest(curve, num(low), num(high), num(near))
        other_way = with_numbers_times(curve, -1)
        self.check_told(told, -frac(told[0]), other_way, low, high, near)
        if known_greatest is not None:
            self.assertTrue(known_greatest <= frac(told[0]) <= known_greatest + near)

    def check_near(self, curve, low, high, known=None, known_greatest=None):
        for near in NEARS:
            self.check(curve, low, high, near, known, known_greatest)

    def test_nought_and_degree_nought(self):
        for low, high in ((0, 1), (-SIXTY, SIXTY)):
            self.check_near((), low, high, 0, 0)
            for top in (1, -1, Fraction(-2, 3), NINETEEN, Fraction(1, NINETEEN)):
                self.check_near(cur(top), low, high, top, top)

    def test_at_an_end(self):
        self.check_near(cur(3, 1), 0, 2, 3, 5)
        self.check_near(cur(3, -1), 0, 2, 1, 3)
        self.check_near(ROUND, 1, 2, 2, 5)
        self.check_near(ROUND, -2, -1, 2, 5)
        self.check_near(cur(0, 0, 0, 1), -1, 2, -1, 8)
        self.check_near(cur(0, 0, 0, 0, 0, 1), -THIRD, HALF, Fraction(-1, 243), Fraction(1, 32))

    def test_turns_at_an_end(self):
        self.check_near(cur(0, 0, 1), 0, 1, 0, 1)
        self.check_near(cur(0, 0, 1), -1, 0, 0, 1)
        self.check_near(cur(0, 0, 0, 1), 0, 1, 0, 1)
        self.check_near(cur(0, -3, 0, 1), -1, 1, -2, 2)

    def test_within(self):
        self.check_near(cur(2, -3, 1), 0, 3, Fraction(-1, 4), 2)
        self.check_near(cur(0, 0, 0, 0, 1), -1, 2, 0, 16)
        self.check_near(at_roots(THIRD, THIRD), 0, 1, 0, Fraction(4, 9))
        self.check_near(cur(0, -3, 0, 1), -3, 3, -18, 18)
        self.check_near(cur(0, -3, 0, 1), Fraction(-3, 2), Fraction(3, 2), -2, 2)

    def test_told_itself_where_it_is_found(self):
        for near in NEARS:
            self.assertEqual(least(cur(3, 1), num(0), num(2), num(near))[:2], (num(3), num(0)))
            self.assertEqual(least(cur(3, -1), num(0), num(2), num(near))[:2], (num(1), num(2)))
            self.assertEqual(greatest(cur(3, 1), num(0), num(2), num(near))[:2], (num(5), num(2)))
        self.assertEqual(least(cur(0, 0, 1, 0, 1), num(-1), num(1), num(1, SIXTY))[:2], (num(0), num(0)))

    def test_at_places_that_are_no_fractions(self):
        self.check_near(powers((ROOT_TWO,), (2,)), -2, 3, 0, 49)
        self.check_near(powers((ROOT_TWO,), (3,)), -1, 1, -8, -1)
        self.check_near(product(at_roots(0), ROOT_TWO), -1, 1)
        self.check_near(product(powers((ROOT_TWO,), (2,)), cur(5, 1, 1)), -10, 10, 0)
        self.check_near(cur(0, 1, 0, 0, 0, 1, 1), -1, 1)

    def test_at_several_places(self):
        self.check_near(WAVES, -1, 1, -1, 1)
        self.check_near(at_roots(0, 0, 1, 1, 2, 2), 0, 2, 0)
        self.check_near(at_roots(0, 0, THIRD, THIRD), -1, 1, 0)
        self.check_near(cur(1, 0, -2, 0, 1), -2, 2, 0, 9)
        self.check_near(with_numbers_times(ROOT_TWO, 3), -2, 2, -6, 6)

    def test_places_that_are_nearly_as_low(self):
        for tiny in (Fraction(1, 10 ** 9), Fraction(-1, 10 ** 9), Fraction(1, NINETEEN)):
            waves = cur(-1, tiny, 18, 0, -48, 0, 32)
            self.check_near(waves, -1, 1)
            self.check_near(cur(1, tiny, -2, 0, 1), -2, 2)

    def test_wide_and_narrow_stretches(self):
        tiny = Fraction(1, SIXTY)
        for low, high in ((-SIXTY, SIXTY), (Fraction(-SIXTY, 7), tiny), (tiny, 3 * tiny)):
            for near in (Fraction(1, SIXTY), SIXTY):
                for curve in (WAVES, ROOT_TWO, cur(2, -3, 1, 1), cur(5, 1)):
                    self.check(curve, low, high, near)

    def test_small_numbers(self):
        chance = Random(11)
        for degree in range(1, 7):
            for again in range(6):
                tops = [Fraction(chance.randrange(-9, 10), chance.randrange(1, 4)) for place in range(degree)]
                curve = cur(*tops + [chance.choice((1, -1, Fraction(-2, 7), 5))])
                self.check(curve, -2, Fraction(5, 3), Fraction(1, 1000))
                self.check(curve, Fraction(-1, 7), 3, 2)

    def test_twenty_figures(self):
        chance = Random(12)
        for degree in (3, 6):
            for again in range(2):
                tops = [chance.randrange(-10 ** 20 + 1, 10 ** 20) for place in range(degree + 1)]
                curve = cur(*[Fraction(top, chance.randrange(1, 10 ** 20)) for top in tops])
                self.check(curve, -1, 1, Fraction(1, SIXTY))
                self.check(curve, -SIXTY, SIXTY, Fraction(1, SIXTY))

    def test_what_is_told_may_be_asked_again(self):
        curve, near = cur(2, -3, 1, 1, 1), Fraction(1, 10 ** 20)
        for again in range(3):
            told = least(curve, num(0), num(3), num(near))
            self.check_told(told, frac(told[0]), curve, 0, 3, near)
            curve, near = less_number(curve, frac(told[0])), near / 10 ** 20
        self.check(curve, 0, frac(told[1]), near)

    def test_degree_above_six_refused_ahead(self):
        for degree in range(7, 13):
            for curve in (cur(*[0] * degree + [1]), cur(*range(1, degree + 2))):
                for low, high in ((num(0), num(1)),) + NO_STRETCHES:
                    for near in (num(1),) + NO_NEARS:
                        refused(self, TooGreat, least, curve, low, high, near)
                        refused(self, TooGreat, greatest, curve, low, high, near)

    def test_no_stretch_refused_ahead_of_no_near(self):
        for curve in ((), cur(1), cur(0, 1), ROOT_TWO, WAVES):
            for low, high in NO_STRETCHES:
                for near in (num(1),) + NO_NEARS:
                    refused(self, NoStretch, least, curve, low, high, near)
                    refused(self, NoStretch, greatest, curve, low, high, near)

    def test_no_near_refused(self):
        for curve in ((), cur(1), cur(0, 1), ROOT_TWO, WAVES):
            for near in NO_NEARS:
                refused(self, NoNear, least, curve, num(0), num(1), near)
                refused(self, NoNear, greatest, curve, num(0), num(1), near)


if __name__ == "__main__":
    unittest.main()
