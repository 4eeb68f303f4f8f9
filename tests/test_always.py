"""Point 21: what is told of a curve on all numbers."""

import unittest
from fractions import Fraction
from random import Random

from helpers import at_roots, check_number, check_squares, cur, frac, less_number, powers, product, refused
from helpers import sum_of_squares, with_numbers_times, worth_by_powers
from neverbelow.common import plain
from neverbelow.errors import TooGreat
from neverbelow.squares import always

HALF = Fraction(1, 2)
THIRD = Fraction(1, 3)
NINETEEN = 10 ** 19
TINY = Fraction(1, NINETEEN)
ROUND = cur(1, 0, 1)
ROOT_TWO = cur(-2, 0, 1)
GOLDEN = cur(-1, -1, 1)


class AlwaysTest(unittest.TestCase):
    def check_place(self, curve, start, end):
        check_number(self, start)
        check_number(self, end)
        if start == end:
            self.assertEqual(worth_by_powers(curve, start), 0)
            return
        self.assertLess(frac(start), frac(end))
        part = plain(curve)
        self.assertLess(worth_by_powers(part, start) * worth_by_powers(part, end), 0)

    def told_of(self, curve):
        """What is told shows by itself that the word is the right one."""
        told = always(curve)
        self.assertIs(type(told), tuple)
        if told[0] == "above":
            self.assertEqual(len(told), 3)
            check_number(self, told[1])
            self.assertGreater(told[1][0], 0)
            check_squares(self, less_number(curve, frac(told[1])), told[2])
        elif told[0] == "touches":
            self.assertEqual(len(told), 4)
            check_squares(self, curve, told[1])
            self.check_place(curve, told[2], told[3])
        else:
            self.assertEqual(told[0], "below")
            self.assertEqual(len(told), 2)
            check_number(self, told[1])
            self.assertLess(worth_by_powers(curve, told[1]), 0)
        return told

    def check(self, word, *curves):
        for curve in curves:
            for factor in (1, Fraction(2, 7)):
                self.assertEqual(self.told_of(with_numbers_times(curve, factor))[0], word, curve)

    def test_nought(self):
        self.assertEqual(always(()), ("touches", [], (0, 1), (0, 1)))

    def test_above(self):
        self.check("above", cur(1), cur(TINY), cur(NINETEEN))
        self.check("above", ROUND, cur(1, 1, 1), cur(5, -4, 1), cur(TINY, 0, 1))
        self.check("above", cur(THIRD * THIRD + TINY, -2 * THIRD, 1))
        self.check("above", cur(1, 0, 0, 0, 1), cur(1, 1, 1, 1, 1), cur(1, 0, -1, 0, 1), cur(3, -4, 0, 0, 2))
        self.check("above", powers((ROUND,), (2,)), product(ROUND, cur(5, 4, 1)), powers((cur(TINY, 0, 1),), (2,)))
        self.check("above", cur(4 + TINY, 0, -4, 0, 1), cur(1 + TINY, -4, 6, -4, 1), cur(100, 1, -19, 0, 1))
        self.check("above", product(cur(TINY, 0, 1), cur(1 + TINY, -2, 1)), cur(NINETEEN, 0, TINY, 0, TINY))

    def test_touches(self):
        self.check("touches", cur(0, 0, 1), at_roots(THIRD, THIRD), at_roots(-7, -7), cur(0, 0, 0, 0, 1))
        self.check("touches", at_roots(*[THIRD] * 4), at_roots(1, 1, 2, 2), at_roots(THIRD, THIRD, -4, -4))
        self.check("touches", product(at_roots(HALF, HALF), ROUND), product(at_roots(0, 0), cur(TINY, 0, 1)))
        self.check("touches", powers((ROOT_TWO,), (2,)), powers((GOLDEN,), (2,)), powers((cur(-1, 5, 3),), (2,)))
        self.check("touches", at_roots(0, 0, TINY, TINY))

    def test_below(self):
        self.check("below", cur(-1), cur(-TINY), cur(0, 1), cur(0, -1), cur(5, TINY), cur(5, -TINY))
        self.check("below", cur(0, 0, -1), cur(-TINY, 0, 1), ROOT_TWO, GOLDEN)
        self.check("below", at_roots(THIRD, THIRD + TINY), with_numbers_times(ROUND, -1))
        self.check("below", cur(0, 0, 0, 1), cur(NINETEEN, 0, NINETEEN, 1), cur(NINETEEN, 0, NINETEEN, -TINY))
        self.check("below", at_roots(1, 1, 1), product(ROUND, at_roots(0)), at_roots(0, 0, 5))
        self.check("below", cur(4 - TINY, 0, -4, 0, 1), product(ROOT_TWO, ROUND))
        self.check("below", at_roots(0, 0, 0, 1), at_roots(1, 2, 3, 4))
        self.check("below", with_numbers_times(powers((ROOT_TWO,), (2,)), -1), cur(1, 0, 0, 0, -TINY))
        self.check("below", at_roots(0, 0, THIRD, THIRD + TINY), cur(-TINY, 0, 0, 0, 1), cur(0, 0, 1, 0, -TINY))

    def test_small_numbers(self):
        chance = Random(9)
        words = {"above": 0, "touches": 0, "below": 0}
        for again in range(300):
            tops = [chance.randrange(-3, 4) for place in range(chance.randrange(5))]
            curve = cur(*tops + [chance.choice((1, 1, 2, 3, -1))])
            words[self.told_of(curve)[0]] += 1
        self.assertTrue(all(words.values()), words)

    def test_twenty_figures(self):
        chance = Random(10)
        for again in range(12):
            for degree in range(5):
                tops = [chance.randrange(-10 ** 20 + 1, 10 ** 20) for place in range(degree + 1)]
                self.told_of(cur(*[Fraction(top, chance.randrange(1, 10 ** 20)) for top in tops]))

    def test_what_is_told_may_be_asked_again(self):
        for curve in (cur(1, 0, 0, 0, 1), cur(4 + TINY, 0, -4, 0, 1), product(cur(TINY, 0, 1), cur(1 + TINY, -2, 1))):
            for again in range(3):
                told = self.told_of(curve)
                self.assertIn(told[0], ("above", "touches"))
                if told[0] == "above":
                    curve = sum_of_squares(told[2])

    def test_degree_above_four_refused(self):
        for degree in range(5, 13):
            for last in (1, -1):
                refused(self, TooGreat, always, cur(*[0] * degree + [last]))
                refused(self, TooGreat, always, cur(*[1] * degree + [last]))


if __name__ == "__main__":
    unittest.main()
