import unittest
from fractions import Fraction
from random import Random

from helpers import at_roots, check_map, cur, frac, num, powers, product, refused, with_numbers_times
from neverbelow.errors import NoCurve, NoStretch, TooGreat
from neverbelow.maps import holds, map_of

HALF = Fraction(1, 2)
THIRD = Fraction(1, 3)
SIXTY = 10 ** 59 + 9
NINETEEN = 10 ** 19
ROOT_TWO = cur(-2, 0, 1)
ROUND = cur(1, 0, 1)
STRETCHES = (
    (num(0), num(1)), (num(-1), num(1)), (num(-2), num(3)), (num(-7, 3), num(15, 7)), (num(1), num(2)),
    (num(-SIXTY), num(SIXTY)), (num(Fraction(-SIXTY, 7)), num(Fraction(SIXTY - 2, 11))), (num(1, SIXTY), num(3, SIXTY)),
)
NO_STRETCHES = ((num(1), num(1)), (num(1), num(0)), (num(-1, 3), num(-1, 2)))


class MapTest(unittest.TestCase):
    def check(self, curve, low, high, roots=()):
        """Roots are places that are known to be nought."""
        rows = map_of(curve, low, high)
        check_map(self, curve, low, high, rows)
        places = [row for row in rows if row[0] == "place"]
        for root in roots:
            holding = [row for row in places if frac(row[1]) <= root <= frac(row[2])]
            self.assertEqual(len(holding), 1 if frac(low) <= root <= frac(high) else 0)
        self.assertIs(holds(curve, low, high, rows), True)
        return rows

    def check_on_all(self, curve, roots=()):
        for low, high in STRETCHES:
            self.check(curve, low, high, roots)

    def test_degree_nought(self):
        for top in (1, -1, Fraction(-2, 3), NINETEEN):
            self.check_on_all(cur(top))
            self.assertEqual(map_of(cur(top), num(0), num(1)), [("clear", num(0), num(1), [num(top)])])

    def test_lines(self):
        for top in (0, 1, HALF, Fraction(-7, 5), 40, Fraction(1, NINETEEN)):
            self.check_on_all(at_roots(top), [top])
            self.check_on_all(with_numbers_times(at_roots(top), Fraction(-3, 7)), [top])

    def test_roots_that_are_fractions(self):
        chance = Random(1)
        choice = [Fraction(top, bottom) for top in range(-7, 8) for bottom in (1, 2, 3, 5)]
        for degree in range(1, 7):
            for again in range(8):
                roots = [chance.choice(choice) for place in range(degree)]
                curve = with_numbers_times(at_roots(*roots), chance.choice((1, -1, Fraction(-5, 3), 8)))
                self.check(curve, num(-2), num(3), roots)
                self.check(curve, num(-7), num(7), roots)
                self.check(curve, num(min(roots) - 1), num(max(roots)), roots)

    def test_roots_that_are_no_fractions(self):
        for curve in (
            ROOT_TWO, cur(-1, -1, 1), cur(-2, 0, 0, 1), cur(1, -3, 0, 1), cur(1, 0, -10, 0, 1), cur(-1, -1, 0, 0, 0, 1),
            product(ROOT_TWO, cur(-3, 0, 1)), product(ROOT_TWO, cur(-3, 0, 1), cur(-5, 0, 1)),
            product(ROOT_TWO, at_roots(1, Fraction(3, 2))), cur(-1, 0, 24, 0, -80, 0, 64),
        ):
            self.check_on_all(curve)
            self.check_on_all(with_numbers_times(curve, Fraction(-1, 7)))

    def test_no_roots(self):
        for curve in (
            ROUND, powers((ROUND,), (2,)), powers((ROUND,), (3,)), cur(1, 1, 1), cur(1, 0, 0, 0, 1),
            cur(Fraction(1, NINETEEN), -1, 1), cur(3, 0, 0, 0, 0, 0, 2), product(ROUND, cur(5, 4, 1), cur(7, -5, 1)),
        ):
            self.check_on_all(curve)
            self.check_on_all(with_numbers_times(curve, -1))

    def test_roots_and_none_together(self):
        self.check_on_all(product(ROUND, at_roots(HALF)), [HALF])
        self.check_on_all(product(ROUND, ROUND, at_roots(HALF, 2)), [HALF, 2])
        self.check_on_all(product(cur(Fraction(1, 4) + Fraction(1, 10 ** 9), -1, 1), at_roots(HALF)), [HALF])

    def test_twofold_and_threefold_roots(self):
        for roots in (
            (1, 1), (HALF, HALF), (THIRD, THIRD), (0, 0), (1, 1, 1), (THIRD,) * 3, (0, 0, 1, 1), (THIRD, THIRD, HALF),
            (THIRD,) * 4, (1,) * 5, (THIRD,) * 6, (0,) * 6, (0, 0, 0, 1, 1, 1), (THIRD, THIRD, HALF, HALF, 2, 2),
            (Fraction(-1, 7), Fraction(-1, 7), Fraction(-1, 7), 1, Fraction(4, 3), Fraction(4, 3)),
        ):
            self.check_on_all(at_roots(*roots), roots)
            self.check_on_all(with_numbers_times(at_roots(*roots), -2), roots)

    def test_twofold_and_threefold_roots_that_are_no_fractions(self):
        golden = cur(-1, -1, 1)
        for curve in (
            powers((ROOT_TWO,), (2,)), powers((ROOT_TWO,), (3,)), powers((golden,), (2,)), powers((golden,), (3,)),
            powers((golden, ROOT_TWO), (2, 1)), powers((golden, ROUND), (2, 1)), powers((cur(1, -3, 0, 1),), (2,)),
            product(powers((golden,), (2,)), at_roots(1, 1)), product(powers((ROOT_TWO,), (2,)), at_roots(0, 1)),
        ):
            self.check_on_all(curve)
            self.check_on_all(with_numbers_times(curve, -3))

    def test_roots_close_together(self):
        tiny = Fraction(1, 10 ** 9)
        for roots in ((THIRD, THIRD + tiny), (0, tiny), (HALF - tiny, HALF), (1, 1 + tiny, 1 - tiny)):
            self.check_on_all(at_roots(*roots), roots)
        roots = (THIRD, THIRD, THIRD + Fraction(1, 1000), THIRD + Fraction(1, 1000))
        self.check_on_all(at_roots(*roots), roots)
        steep = 10 ** 9
        self.check_on_all(cur(-2, 4 * steep, -2 * steep * steep, 0, 0, 0, 1))
        self.check_on_all(cur(-1, 2 * steep, -steep * steep, 0, 0, 0, Fraction(1, NINETEEN)))
        self.check_on_all(cur(4 - Fraction(1, NINETEEN), 0, -4, 0, 1))

    def test_roots_that_are_nearly_there(self):
        steep = 10 ** 9
        self.check_on_all(cur(2, -4 * steep, 2 * steep * steep, 0, 0, 0, 1))
        self.check_on_all(cur(4 + Fraction(1, NINETEEN), 0, -4, 0, 1))
        self.check_on_all(cur(Fraction(1, 9) + Fraction(1, NINETEEN), Fraction(-2, 3), 1))

    def test_roots_at_low_and_at_high(self):
        low, high = Fraction(-1, 3), Fraction(5, 7)
        for roots in (
            (low,), (high,), (low, high), (low, low), (high, high), (low, low, high, high), (low,) * 3, (low, 0, high),
            (low, HALF, HALF, high), (low, low, Fraction(4, 21), high), (low, low + Fraction(1, 10 ** 6), high),
            (low,) * 3 + (high,) * 3, (low, high, high - Fraction(1, 10 ** 6)), (low, high, 2, -2), (low,) * 6,
        ):
            for ahead in (1, Fraction(-2, 3)):
                rows = self.check(with_numbers_times(at_roots(*roots), ahead), num(low), num(high), roots)
                self.assertEqual(rows[0] == ("place", num(low), num(low), []), low in roots)
                self.assertEqual(rows[-1] == ("place", num(high), num(high), []), high in roots)
        for curve in (product(at_roots(low), ROOT_TWO), product(at_roots(low, high), cur(-1, -1, 1), ROUND)):
            self.check(curve, num(low), num(high), [low])
            self.check(curve, num(low), num(5), [low])
            self.check(curve, num(-5), num(low), [low])

    def test_roots_just_beyond_low_and_high(self):
        tiny = Fraction(1, SIXTY)
        for roots in ((-tiny, 1 + tiny), (tiny, 1 - tiny), (-tiny, -tiny, 1 - tiny)):
            self.check(at_roots(*roots), num(0), num(1), roots)

    def test_twenty_figures(self):
        chance = Random(2)
        for again in range(6):
            tops = [chance.randrange(-10 ** 20 + 1, 10 ** 20) for place in range(7)]
            curve = cur(*[Fraction(top, chance.randrange(1, 10 ** 20)) for top in tops])
            self.check_on_all(curve)

    def test_rows_are_as_many_as_needed(self):
        # Halving beside a place that is nearly one must not leave rows by the hundred.
        steep = 10 ** 9
        for curve in (cur(2, -4 * steep, 2 * steep * steep, 0, 0, 0, 1), cur(-2, 4 * steep, -2 * steep * steep, 0, 0, 0, 1)):
            self.assertLess(len(map_of(curve, num(-SIXTY), num(SIXTY))), 20)

    def test_nought_refused_ahead_of_no_stretch(self):
        for low, high in STRETCHES + NO_STRETCHES:
            refused(self, NoCurve, map_of, (), low, high)

    def test_degree_above_six_refused_ahead_of_no_stretch(self):
        for degree in range(7, 13):
            for low, high in STRETCHES + NO_STRETCHES:
                refused(self, TooGreat, map_of, cur(*[0] * degree + [1]), low, high)
                refused(self, TooGreat, map_of, cur(*range(1, degree + 2)), low, high)

    def test_no_stretch_refused(self):
        for low, high in NO_STRETCHES:
            for curve in (cur(1), cur(0, 1), ROOT_TWO, cur(*[1] * 7)):
                refused(self, NoStretch, map_of, curve, low, high)


if __name__ == "__main__":
    unittest.main()
