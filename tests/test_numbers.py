import unittest
from fractions import Fraction

from helpers import check_number, frac, num
from neverbelow.errors import NoNumber
from neverbelow.numbers import less, minus, number, over, plus, sign, times

SIXTY_A = 10 ** 59 + 7 * 10 ** 30 + 3
SIXTY_B = 9 * 10 ** 59 + 11
THIRTY_A = num(123456789012345678901234567890, 987654321098765432109876543211)
THIRTY_B = num(-314159265358979323846264338327, 271828182845904523536028747135)

SOME = (
    num(0), num(1), num(-1), num(2), num(-2), num(1, 2), num(-1, 2), num(2, 3), num(-3, 2), num(7, 6),
    num(5, 12), num(-5, 12), num(100), THIRTY_A, THIRTY_B, num(SIXTY_A, SIXTY_B),
)


class NumberTest(unittest.TestCase):
    def test_lowest_terms(self):
        self.assertEqual(number(6, 4), (3, 2))
        self.assertEqual(number(3, 2), (3, 2))
        self.assertEqual(number(12, 4), (3, 1))
        self.assertEqual(number(4, 12), (1, 3))
        self.assertEqual(number(5, 5), (1, 1))

    def test_bottom_from_one_on(self):
        self.assertEqual(number(6, -4), (-3, 2))
        self.assertEqual(number(-6, 4), (-3, 2))
        self.assertEqual(number(-6, -4), (3, 2))
        self.assertEqual(number(-5, -5), (1, 1))
        self.assertEqual(number(1, -1), (-1, 1))

    def test_top_nought(self):
        for bottom in (1, -1, 7, -7, SIXTY_A):
            self.assertEqual(number(0, bottom), (0, 1))

    def test_all_small_parts(self):
        for top in range(-24, 25):
            for bottom in list(range(-24, 0)) + list(range(1, 25)):
                told = number(top, bottom)
                check_number(self, told)
                self.assertEqual(told, num(top, bottom))

    def test_sixty_figures(self):
        self.assertEqual(len(str(SIXTY_A)), 60)
        self.assertEqual(len(str(SIXTY_B)), 60)
        for top, bottom in ((SIXTY_A, SIXTY_B), (-SIXTY_A, SIXTY_B), (SIXTY_B, -SIXTY_A)):
            self.assertEqual(number(top, bottom), num(top, bottom))
        self.assertEqual(number(SIXTY_A, SIXTY_A), (1, 1))
        self.assertEqual(number(3 * 10 ** 59, -6 * 10 ** 59), (-1, 2))
        self.assertEqual(number(SIXTY_A, 1), (SIXTY_A, 1))

    def test_as_many_figures_as_needed(self):
        top = 7 ** 2000
        bottom = 3 ** 3000
        self.assertEqual(number(top * 10, bottom * 10), (top, bottom))
        self.assertEqual(times((top, bottom), (bottom, top)), (1, 1))

    def test_bottom_nought_refused(self):
        for top in (0, 1, -1, SIXTY_A):
            with self.assertRaises(NoNumber):
                number(top, 0)


class ReckoningTest(unittest.TestCase):
    def check_all_pairs(self, own, wanted):
        for one in SOME:
            for other in SOME:
                told = own(one, other)
                check_number(self, told)
                self.assertEqual(frac(told), wanted(frac(one), frac(other)), (one, other))

    def test_plus(self):
        self.assertEqual(plus((1, 2), (1, 3)), (5, 6))
        self.assertEqual(plus((1, 6), (1, 3)), (1, 2))
        self.assertEqual(plus((1, 2), (-1, 2)), (0, 1))
        self.check_all_pairs(plus, lambda one, other: one + other)

    def test_minus(self):
        self.assertEqual(minus((1, 2), (1, 3)), (1, 6))
        self.assertEqual(minus((1, 3), (1, 2)), (-1, 6))
        self.assertEqual(minus(THIRTY_A, THIRTY_A), (0, 1))
        self.check_all_pairs(minus, lambda one, other: one - other)

    def test_times(self):
        self.assertEqual(times((2, 3), (3, 4)), (1, 2))
        self.assertEqual(times((-2, 3), (0, 1)), (0, 1))
        self.assertEqual(times((-2, 3), (-3, 2)), (1, 1))
        self.check_all_pairs(times, lambda one, other: one * other)

    def test_over(self):
        self.assertEqual(over((1, 2), (-3, 4)), (-2, 3))
        self.assertEqual(over((0, 1), (-3, 4)), (0, 1))
        self.assertEqual(over(THIRTY_B, THIRTY_B), (1, 1))
        for one in SOME:
            for other in SOME:
                if other != (0, 1):
                    told = over(one, other)
                    check_number(self, told)
                    self.assertEqual(frac(told), frac(one) / frac(other))

    def test_over_by_nought_refused(self):
        for one in SOME:
            with self.assertRaises(NoNumber):
                over(one, (0, 1))

    def test_less(self):
        self.assertIs(less((1, 3), (1, 2)), True)
        self.assertIs(less((1, 2), (1, 3)), False)
        self.assertIs(less((-1, 2), (-1, 3)), True)
        self.assertIs(less((-1, 2), (0, 1)), True)
        self.assertIs(less((0, 1), (1, 2)), True)
        self.assertIs(less((0, 1), (0, 1)), False)
        for one in SOME:
            for other in SOME:
                self.assertIs(less(one, other), frac(one) < frac(other))

    def test_less_tells_near_ones_apart(self):
        near = num(SIXTY_A, SIXTY_B)
        higher = num(Fraction(SIXTY_A, SIXTY_B) + Fraction(1, 10 ** 300))
        self.assertIs(less(near, higher), True)
        self.assertIs(less(higher, near), False)

    def test_sign(self):
        for one, wanted in (
            ((0, 1), 0), ((1, 1), 1), ((-1, 1), -1), ((1, 10 ** 60), 1), ((-1, 10 ** 60), -1),
            (THIRTY_A, 1), (THIRTY_B, -1), (minus(THIRTY_A, THIRTY_A), 0),
        ):
            told = sign(one)
            self.assertIs(type(told), int)
            self.assertEqual(told, wanted)


if __name__ == "__main__":
    unittest.main()
