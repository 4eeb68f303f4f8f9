"""Point 17: the verdict of a curve on a stretch."""

import unittest
from fractions import Fraction
from random import Random

from helpers import at_roots, check_verdict, cur, frac, num, powers, product, refused, with_numbers_times
from helpers import worth_by_powers
from neverbelow.errors import NoStretch, TooGreat
from neverbelow.maps import holds
from neverbelow.verdicts import shown, verdict

HALF = Fraction(1, 2)
THIRD = Fraction(1, 3)
SIXTY = 10 ** 59 + 9
NINETEEN = 10 ** 19
STEEP = 10 ** 9
TINY = Fraction(1, SIXTY)
ROOT_TWO = cur(-2, 0, 1)
GOLDEN = cur(-1, -1, 1)
ROUND = cur(1, 0, 1)
THREE_PLACES = cur(1, -3, 0, 1)
# These two lie on either side of the root of two, which is no fraction.
UNDER_ROOT_TWO = Fraction(14142135623730950488, 10 ** 19)
OVER_ROOT_TWO = Fraction(14142135623730950489, 10 ** 19)
NO_STRETCHES = ((num(1), num(1)), (num(1), num(0)), (num(-1, 3), num(-1, 2)))


def word_by_roots(curve, roots, low, high):
    """The word of a curve that is nought at these fractions alone: its sign can't change between them."""
    places = sorted({low, high} | {root for root in roots if low <= root <= high})
    places = places + [(one + other) / 2 for one, other in zip(places, places[1:])]
    lowest = min(worth_by_powers(curve, num(place)) for place in places)
    return "below" if lowest < 0 else "touches" if lowest == 0 else "above"


class VerdictTest(unittest.TestCase):
    def check(self, word, curve, low, high):
        low, high = num(low), num(high)
        told = verdict(curve, low, high)
        self.assertEqual(told[0], word, (curve, low, high))
        check_verdict(self, curve, low, high, told)
        if word != "below":
            self.assertIs(holds(curve, low, high, told[1]), True)
        self.assertIs(shown(curve, low, high, told), True)
        return told

    def check_all(self, word, curve, stretches):
        for low, high in stretches:
            self.check(word, curve, low, high)

    def check_roots(self, roots, ahead, low, high):
        curve = with_numbers_times(at_roots(*roots), ahead)
        self.check(word_by_roots(curve, roots, Fraction(low), Fraction(high)), curve, low, high)

    def test_degree_nought(self):
        for low, high in ((0, 1), (-SIXTY, SIXTY), (TINY, 2 * TINY)):
            self.check("above", cur(1), low, high)
            self.check("above", cur(Fraction(1, NINETEEN)), low, high)
            self.check("below", cur(-1), low, high)
            self.check("below", cur(Fraction(-1, NINETEEN)), low, high)
        self.assertEqual(verdict(cur(3), num(0), num(1)), ("above", [("clear", num(0), num(1), [num(3)])]))

    def test_lines(self):
        self.check("above", at_roots(0), 1, 2)
        self.check("touches", at_roots(0), 0, 2)
        self.check("below", at_roots(0), -1, 2)
        self.check("below", at_roots(0), -1, 0)
        self.check("below", with_numbers_times(at_roots(0), -1), 0, 1)
        self.check("touches", with_numbers_times(at_roots(0), -1), -1, 0)

    def test_places_that_are_fractions(self):
        chance = Random(3)
        choice = [Fraction(top, bottom) for top in range(-4, 5) for bottom in (1, 2, 3)]
        for degree in range(1, 7):
            for again in range(12):
                roots = [chance.choice(choice) for place in range(degree)]
                for ahead in (1, Fraction(-5, 3)):
                    self.check_roots(roots, ahead, -1, 2)
                    self.check_roots(roots, ahead, max(roots), 5)
                    self.check_roots(roots, ahead, -5, min(roots))
                    self.check_roots(roots, ahead, Fraction(-4, 5), Fraction(-1, 7))

    def test_even_places(self):
        chance = Random(4)
        choice = [Fraction(top, bottom) for top in range(-4, 5) for bottom in (1, 2, 3)]
        for pairs in range(1, 4):
            for again in range(8):
                roots = [chance.choice(choice) for place in range(pairs)] * 2
                self.check_roots(roots, 2, -1, 2)
                self.check_roots(roots, -2, -1, 2)
                self.check("touches", at_roots(*roots), min(roots) - 1, max(roots) + 1)
                self.check("above", at_roots(*roots), max(roots) + TINY, max(roots) + 1)
                self.check("below", with_numbers_times(at_roots(*roots), -1), min(roots), max(roots) + 1)

    def test_twofold_fourfold_and_threefold_places(self):
        for root in (0, THIRD, Fraction(-7, 5)):
            for often in (2, 4, 6):
                self.check("touches", at_roots(*[root] * often), -2, 2)
                self.check("below", with_numbers_times(at_roots(*[root] * often), -1), -2, 2)
            for often in (1, 3, 5):
                self.check("below", at_roots(*[root] * often), -2, 2)
                self.check("below", with_numbers_times(at_roots(*[root] * often), -1), -2, 2)
            self.check("touches", at_roots(*[root] * 4 + [2, 2]), -2, 2)
            self.check("below", at_roots(*[root] * 3 + [1]), -2, 2)
            self.check("touches", at_roots(*[root] * 3 + [-2] * 3), root, 2)

    def test_places_at_low_and_at_high(self):
        low, high = Fraction(-1, 3), Fraction(5, 7)
        for roots in (
            (low,), (high,), (low, high), (low, low), (high, high), (low,) * 3, (high,) * 3, (low,) * 4, (high,) * 4,
            (low, HALF, HALF), (low, low, high), (low,) * 3 + (high,) * 3, (low, 0, high), (low, high, high),
        ):
            for ahead in (1, Fraction(-2, 3)):
                self.check_roots(roots, ahead, low, high)
        self.check("touches", at_roots(low), low, high)
        self.check("touches", with_numbers_times(at_roots(low, high), -1), low, high)

    def test_below_between_places_at_both_ends(self):
        told = self.check("below", at_roots(0, 1), 0, 1)
        self.assertTrue(0 < frac(told[1]) < 1)
        told = self.check("below", with_numbers_times(at_roots(0, 0, 0, 1, 1), -1), 0, 1)
        self.assertTrue(0 < frac(told[1]) < 1)

    def test_places_that_are_no_fractions(self):
        self.check_all("above", ROOT_TWO, ((2, 3), (Fraction(3, 2), SIXTY), (-SIXTY, -2)))
        self.check_all("below", ROOT_TWO, ((1, 2), (-1, 1), (-2, 2), (-SIXTY, SIXTY), (-2, -1), (1, SIXTY)))
        self.check_all("touches", powers((ROOT_TWO,), (2,)), ((1, 2), (-2, 2), (-SIXTY, SIXTY), (-2, 0)))
        self.check_all("above", powers((ROOT_TWO,), (2,)), ((-1, 1), (2, 3)))
        self.check_all("below", powers((ROOT_TWO,), (3,)), ((1, 2), (-2, 2), (-1, 1)))
        self.check_all("above", powers((ROOT_TWO,), (3,)), ((2, 3), (-SIXTY, -2)))
        self.check_all("touches", powers((GOLDEN, ROUND), (2, 1)), ((-1, 0), (0, 2), (-1, 2)))
        self.check_all("touches", powers((THREE_PLACES,), (2,)), ((-2, -1), (0, 1), (1, 2), (-2, 2)))
        self.check_all("above", powers((THREE_PLACES,), (2,)), ((-1, 0), (HALF, 1), (2, 3)))
        self.check_all("touches", powers((GOLDEN, at_roots(1)), (2, 2)), ((-1, 2), (0, 1), (HALF, 2)))
        self.check_all("below", powers((GOLDEN, ROOT_TWO), (2, 1)), ((-1, 0), (0, 2), (-1, Fraction(3, 2))))
        self.check_all("touches", powers((GOLDEN, ROOT_TWO), (2, 1)), ((Fraction(3, 2), 2),))

    def test_no_places(self):
        for curve in (ROUND, powers((ROUND,), (2,)), powers((ROUND,), (3,)), cur(1, 1, 1), cur(3, 0, 0, 0, 0, 0, 2)):
            for low, high in ((0, 1), (-1, 1), (-SIXTY, SIXTY), (TINY, 2 * TINY)):
                self.check("above", curve, low, high)
                self.check("below", with_numbers_times(curve, -1), low, high)

    def test_places_just_outside_of_the_stretch(self):
        self.check("above", at_roots(-TINY), 0, 1)
        self.check("above", with_numbers_times(at_roots(1 + TINY), -1), 0, 1)
        self.check("above", at_roots(-TINY, -TINY, 1 + TINY, 1 + TINY), 0, 1)
        self.check("above", with_numbers_times(at_roots(-TINY, 1 + TINY), -1), 0, 1)
        self.check("below", at_roots(-TINY, 1 + TINY), 0, 1)
        self.check("above", ROOT_TWO, OVER_ROOT_TWO, 2)
        self.check("below", ROOT_TWO, UNDER_ROOT_TWO, 2)
        self.check("above", with_numbers_times(ROOT_TWO, -1), 0, UNDER_ROOT_TWO)
        self.check("below", with_numbers_times(ROOT_TWO, -1), 0, OVER_ROOT_TWO)
        self.check("above", powers((ROOT_TWO,), (2,)), OVER_ROOT_TWO, 2)
        self.check("above", powers((ROOT_TWO,), (2,)), 0, UNDER_ROOT_TWO)
        self.check("touches", powers((ROOT_TWO,), (2,)), UNDER_ROOT_TWO, OVER_ROOT_TWO)

    def test_places_just_within_the_stretch(self):
        self.check("below", at_roots(TINY), 0, 1)
        self.check("below", with_numbers_times(at_roots(1 - TINY), -1), 0, 1)
        self.check("touches", at_roots(TINY, TINY, 1 - TINY, 1 - TINY), 0, 1)

    def test_below_between_two_places_close_together(self):
        told = self.check("below", at_roots(THIRD, THIRD + Fraction(1, STEEP)), 0, 1)
        self.assertTrue(THIRD < frac(told[1]) < THIRD + Fraction(1, STEEP))
        told = self.check("below", at_roots(THIRD, THIRD + Fraction(1, STEEP)), -SIXTY, SIXTY)
        self.assertTrue(THIRD < frac(told[1]) < THIRD + Fraction(1, STEEP))
        for low, high in ((0, 1), (-1, 1), (Fraction(1, 2 * STEEP), 1)):
            self.check("below", cur(2, -4 * STEEP, 2 * STEEP * STEEP, 0, 0, 0, -1), low, high)
        self.check("below", cur(4 - Fraction(1, NINETEEN), 0, -4, 0, 1), 0, 2)
        self.check("below", product(at_roots(0, 0), cur(4 - Fraction(1, NINETEEN), 0, -4, 0, 1)), -2, 2)

    def test_places_that_are_nearly_there(self):
        for low, high in ((0, 1), (-1, 1), (-SIXTY, SIXTY)):
            self.check("above", cur(2, -4 * STEEP, 2 * STEEP * STEEP, 0, 0, 0, 1), low, high)
            self.check("above", cur(4 + Fraction(1, NINETEEN), 0, -4, 0, 1), low, high)
            self.check("above", cur(Fraction(1, 9) + Fraction(1, NINETEEN), Fraction(-2, 3), 1), low, high)

    def test_twenty_figures(self):
        chance = Random(5)
        for degree in range(7):
            for again in range(4):
                tops = [chance.randrange(-10 ** 20 + 1, 10 ** 20) for place in range(degree + 1)]
                curve = cur(*[Fraction(top, chance.randrange(1, 10 ** 20)) for top in tops])
                for low, high in ((-1, 1), (-SIXTY, SIXTY), (Fraction(-SIXTY, 7), TINY)):
                    told = verdict(curve, num(low), num(high))
                    check_verdict(self, curve, num(low), num(high), told)

    def test_just_one_word_is_shown(self):
        for curve, low, high in ((ROUND, 0, 1), (at_roots(0, 0), -1, 1), (at_roots(0), 0, 1), (at_roots(0), -1, 1)):
            told = verdict(curve, num(low), num(high))
            for word in ("above", "touches"):
                if told[0] not in ("below", word):
                    self.assertIs(shown(curve, num(low), num(high), (word, told[1])), False)
            if told[0] != "below":
                for place in (low, high, (Fraction(low) + high) / 2):
                    self.assertIs(shown(curve, num(low), num(high), ("below", num(place))), False)

    def test_nought(self):
        for low, high in ((0, 1), (-SIXTY, SIXTY)):
            self.assertEqual(verdict((), num(low), num(high)), ("touches", []))

    def test_degree_above_six_refused_ahead_of_no_stretch(self):
        for degree in range(7, 13):
            for low, high in ((num(0), num(1)),) + NO_STRETCHES:
                refused(self, TooGreat, verdict, cur(*[0] * degree + [1]), low, high)
                refused(self, TooGreat, verdict, cur(*range(1, degree + 2)), low, high)

    def test_no_stretch_refused(self):
        for low, high in NO_STRETCHES:
            for curve in ((), cur(1), cur(-1), cur(0, 1), ROOT_TWO, cur(*[1] * 7)):
                refused(self, NoStretch, verdict, curve, low, high)


if __name__ == "__main__":
    unittest.main()
