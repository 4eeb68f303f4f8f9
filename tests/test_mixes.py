import unittest
from fractions import Fraction

from helpers import check_curve, check_number, check_numbers, cur, frac, is_mix, num, nums, refused
from helpers import sum_of_mix, worth_by_powers
from neverbelow.errors import NoStretch, TooGreat
from neverbelow.mixes import cut, mixed, raised, sign_of, unmixed, worth_at

HALF = Fraction(1, 2)
SIXTY = 10 ** 59 + 9
CURVES = (
    (),
    cur(5),
    cur(Fraction(-2, 3)),
    cur(0, 1),
    cur(2, -3, 1),
    cur(0, 0, -4),
    cur(1, 0, -HALF, 3),
    cur(Fraction(7, 5), -1, 0, 0, Fraction(-2, 9)),
    cur(SIXTY, 0, Fraction(SIXTY, 7), Fraction(-3, SIXTY)),
    cur(1, -1, 2, -2, 3, -3, 4),
    cur(*[Fraction(place - 6, place + 1) for place in range(12)]),
    cur(1, -1, 2, -2, 3, -3, 4, -4, 5, -5, 6, -6, 7),
    cur(*[0] * 12 + [-1]),
)
STRETCHES = (
    (num(0), num(1)), (num(-1), num(1)), (num(-3, 2), num(7, 3)), (num(2), num(100)), (num(-5), num(-9, 2)),
    (num(-SIXTY), num(SIXTY, 7)), (num(1, SIXTY), num(2, SIXTY)),
)
NO_STRETCHES = (
    (num(1), num(1)), (num(0), num(0)), (num(1), num(0)), (num(-1, 3), num(-1, 2)), (num(SIXTY), num(-SIXTY)),
)
LISTS = (
    nums(3), nums(0), nums(1, 2), nums(-1, 0), nums(1, -2, 1), nums(0, 0, 0), nums(5, 5, 5, 5),
    nums(HALF, Fraction(-2, 7), 0, 3, 0), nums(0, 0, 1, 0, 0, 0), nums(1, 2, 3, 4, 0, 0, 0),
    nums(SIXTY, Fraction(1, SIXTY), -SIXTY, Fraction(-SIXTY, 3)),
    nums(*[Fraction((place * 7) % 5 - 2, place + 1) for place in range(12)]),
    nums(*[(-1) ** place * place * place for place in range(13)]), nums(*[0] * 13), nums(*[0] * 12 + [1]),
)
PLACES = [Fraction(0), Fraction(1), HALF, Fraction(1, 3), Fraction(-2), Fraction(7, 4), Fraction(-1, SIXTY)]
PLACES = PLACES + [Fraction(step, 10) for step in range(1, 10)] + [Fraction(SIXTY, 3), Fraction(11, 13)]


class MixedTest(unittest.TestCase):
    def test_plain_ones(self):
        self.assertEqual(mixed(cur(0, 1), num(0), num(1), 1), nums(0, 1))
        self.assertEqual(mixed(cur(0, 1), num(-1), num(3), 2), nums(-1, 1, 3))
        self.assertEqual(mixed(cur(0, 0, 1), num(0), num(1), 2), nums(0, 0, 1))
        self.assertEqual(mixed(cur(0, 0, 1), num(0), num(1), 3), nums(0, 0, Fraction(1, 3), 1))
        self.assertEqual(mixed(cur(-2, 0, 1), num(1), num(2), 2), nums(-1, 0, 2))
        self.assertEqual(mixed(cur(7), num(3), num(4), 0), nums(7))

    def test_by_the_sum_at_more_places_than_the_degree_has(self):
        for curve in CURVES:
            for low, high in STRETCHES:
                for degree in range(max(len(curve) - 1, 0), 13):
                    told = mixed(curve, low, high, degree)
                    check_numbers(self, told, degree + 1)
                    self.assertTrue(is_mix(told, curve, low, high, degree), (curve, low, high, degree))

    def test_first_and_last_are_the_worths_at_both_ends(self):
        for curve in CURVES:
            for low, high in STRETCHES:
                for degree in range(max(len(curve) - 1, 0), 13):
                    told = mixed(curve, low, high, degree)
                    self.assertEqual(frac(told[0]), worth_by_powers(curve, low))
                    if degree > 0:
                        self.assertEqual(frac(told[-1]), worth_by_powers(curve, high))

    def test_of_nought(self):
        for low, high in STRETCHES:
            for degree in range(13):
                self.assertEqual(mixed((), low, high, degree), nums(*[0] * (degree + 1)))

    def test_of_degree_nought(self):
        for degree in range(13):
            self.assertEqual(mixed(cur(HALF), num(-1), num(5), degree), nums(*[HALF] * (degree + 1)))

    def test_no_stretch_refused_ahead_of_too_great(self):
        for low, high in NO_STRETCHES:
            for curve in CURVES:
                for degree in (-1, 0, 3, 12, 13, 10 ** 59):
                    refused(self, NoStretch, mixed, curve, low, high, degree)

    def test_degree_refused(self):
        for curve in CURVES:
            for degree in (-1, -2, -10 ** 59, 13, 14, 100, 10 ** 59):
                refused(self, TooGreat, mixed, curve, num(0), num(1), degree)
            for degree in range(len(curve) - 1):
                refused(self, TooGreat, mixed, curve, num(0), num(1), degree)


class UnmixedTest(unittest.TestCase):
    def test_plain_ones(self):
        self.assertEqual(unmixed(nums(-1, 0, 2), num(1), num(2)), cur(-2, 0, 1))
        self.assertEqual(unmixed(nums(4), num(1), num(2)), cur(4))
        self.assertEqual(unmixed(nums(2, 2, 2), num(1), num(2)), cur(2))
        self.assertEqual(unmixed(nums(1, 0), num(0), num(1)), cur(1, -1))
        self.assertEqual(unmixed(nums(1, 0, 0), num(0), num(1)), cur(1, -2, 1))

    def test_told_back(self):
        for curve in CURVES:
            for low, high in STRETCHES:
                for degree in range(max(len(curve) - 1, 0), 13):
                    self.assertEqual(unmixed(mixed(curve, low, high, degree), low, high), curve)

    def test_of_lists(self):
        for numbers in LISTS:
            for low, high in STRETCHES:
                told = unmixed(numbers, low, high)
                check_curve(self, told)
                self.assertLessEqual(len(told), len(numbers))
                self.assertTrue(is_mix(numbers, told, low, high, len(numbers) - 1))
                self.assertEqual(mixed(told, low, high, len(numbers) - 1), numbers)

    def test_noughts_alone(self):
        for size in range(1, 14):
            self.assertEqual(unmixed(nums(*[0] * size), num(-1, 3), num(5)), ())

    def test_no_stretch_refused(self):
        for low, high in NO_STRETCHES:
            for numbers in LISTS:
                refused(self, NoStretch, unmixed, numbers, low, high)


class WorthAtTest(unittest.TestCase):
    def test_plain_ones(self):
        self.assertEqual(worth_at(nums(1, 3), num(1, 2)), num(2))
        self.assertEqual(worth_at(nums(0, 0, 1), num(-3)), num(9))
        self.assertEqual(worth_at(nums(4), num(5)), num(4))

    def test_by_the_sum_at_any_place(self):
        for numbers in LISTS:
            for t in PLACES:
                told = worth_at(numbers, num(t))
                check_number(self, told)
                self.assertEqual(frac(told), sum_of_mix(numbers, t))

    def test_ends(self):
        for numbers in LISTS:
            self.assertEqual(worth_at(numbers, num(0)), numbers[0])
            self.assertEqual(worth_at(numbers, num(1)), numbers[-1])

    def test_is_the_curves_worth(self):
        for curve in CURVES:
            for low, high in STRETCHES:
                numbers = mixed(curve, low, high, 12)
                for t in PLACES[:6]:
                    x = num(frac(low) + t * (frac(high) - frac(low)))
                    self.assertEqual(frac(worth_at(numbers, num(t))), worth_by_powers(curve, x))


class CutTest(unittest.TestCase):
    def test_plain_ones(self):
        self.assertEqual(cut(nums(0, 4), num(1, 4)), (nums(0, 1), nums(1, 4)))
        self.assertEqual(cut(nums(0, 0, 1), num(1, 2)), (nums(0, 0, Fraction(1, 4)), nums(Fraction(1, 4), HALF, 1)))
        self.assertEqual(cut(nums(3), num(2, 7)), (nums(3), nums(3)))

    def test_are_those_of_the_two_parts(self):
        for numbers in LISTS:
            for low, high in STRETCHES[:4]:
                curve = unmixed(numbers, low, high)
                for t in PLACES:
                    if 0 < t < 1:
                        told = cut(numbers, num(t))
                        self.assertIs(type(told), tuple)
                        self.assertEqual(len(told), 2)
                        middle = num(frac(low) + t * (frac(high) - frac(low)))
                        for half, start, end in ((told[0], low, middle), (told[1], middle, high)):
                            check_numbers(self, half, len(numbers))
                            self.assertTrue(is_mix(half, curve, start, end, len(numbers) - 1))

    def test_near_the_ends(self):
        for t in (Fraction(1, SIXTY), Fraction(SIXTY - 1, SIXTY)):
            for numbers in LISTS:
                ahead, behind = cut(numbers, num(t))
                self.assertEqual(ahead[0], numbers[0])
                self.assertEqual(behind[-1], numbers[-1])
                self.assertEqual(ahead[-1], behind[0])
                self.assertEqual(frac(behind[0]), sum_of_mix(numbers, t))

    def test_not_above_0_and_below_1_refused(self):
        for t in (0, 1, -1, 2, Fraction(-1, 2), Fraction(3, 2), Fraction(-1, SIXTY), Fraction(SIXTY + 1, SIXTY), SIXTY):
            for numbers in LISTS:
                refused(self, NoStretch, cut, numbers, num(t))


class RaisedTest(unittest.TestCase):
    def test_plain_ones(self):
        self.assertEqual(raised(nums(1, 3)), nums(1, 2, 3))
        self.assertEqual(raised(nums(5)), nums(5, 5))
        self.assertEqual(raised(nums(0, 0, 1)), nums(0, 0, Fraction(1, 3), 1))

    def test_one_degree_more(self):
        for numbers in LISTS:
            if len(numbers) < 13:
                told = raised(numbers)
                check_numbers(self, told, len(numbers) + 1)
                for t in PLACES:
                    self.assertEqual(sum_of_mix(told, t), sum_of_mix(numbers, t))

    def test_as_mixed_tells_them(self):
        for curve in CURVES:
            for degree in range(max(len(curve) - 1, 0), 12):
                numbers = mixed(curve, num(-1), num(3, 2), degree)
                self.assertEqual(raised(numbers), mixed(curve, num(-1), num(3, 2), degree + 1))

    def test_of_thirteen_refused(self):
        for numbers in LISTS:
            if len(numbers) == 13:
                refused(self, TooGreat, raised, numbers)


class SignOfTest(unittest.TestCase):
    def check(self, numbers, wanted):
        told = sign_of(numbers)
        self.assertIs(type(told), int)
        self.assertEqual(told, wanted, numbers)
        self.assertEqual(sign_of([num(-frac(one)) for one in numbers]), -wanted)
        self.assertEqual(sign_of(numbers[::-1]), wanted)

    def test_one_sign(self):
        for numbers in (nums(1), nums(3, 2, 1), nums(Fraction(1, SIXTY), SIXTY), nums(*[HALF] * 13)):
            self.check(numbers, 1)

    def test_noughts_among_them(self):
        for numbers in (nums(0, 1), nums(1, 0), nums(0, 0, 2, 0), nums(0, HALF, 0, 3), nums(*[0] * 12 + [1])):
            self.check(numbers, 1)

    def test_both_signs(self):
        for numbers in (nums(1, -1), nums(1, 1, -HALF), nums(-1, 0, 1), nums(1, -1, 1), nums(0, 2, 0, -3)):
            self.check(numbers, 0)

    def test_noughts_alone(self):
        for size in range(1, 14):
            self.check(nums(*[0] * size), 0)

    def test_tells_the_curves_sign_within(self):
        for numbers in LISTS:
            told = sign_of(numbers)
            if told != 0:
                for t in PLACES:
                    if 0 < t < 1:
                        self.assertGreater(told * sum_of_mix(numbers, t), 0)
                self.assertEqual(sum_of_mix(numbers, Fraction(0)) == 0, numbers[0] == (0, 1))
                self.assertEqual(sum_of_mix(numbers, Fraction(1)) == 0, numbers[-1] == (0, 1))


if __name__ == "__main__":
    unittest.main()
