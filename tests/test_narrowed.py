import unittest
from fractions import Fraction

from helpers import at_roots, check_number, cur, frac, num, powers, product, refused, with_numbers_times
from helpers import worth_by_powers
from neverbelow.errors import NoNear
from neverbelow.maps import map_of, narrowed, near_to

HALF = Fraction(1, 2)
SIXTY = 10 ** 59 + 9
ROOT_TWO = cur(-2, 0, 1)
GOLDEN = cur(-1, -1, 1)
# Each with a curve that has the same places, each once.
CURVES = (
    (ROOT_TWO, ROOT_TWO), (with_numbers_times(ROOT_TWO, Fraction(-3, 7)), ROOT_TWO),
    (powers((ROOT_TWO,), (2,)), ROOT_TWO), (with_numbers_times(powers((ROOT_TWO,), (2,)), -1), ROOT_TWO),
    (powers((ROOT_TWO,), (3,)), ROOT_TWO), (powers((GOLDEN, ROOT_TWO), (2, 1)), product(GOLDEN, ROOT_TWO)),
    (at_roots(Fraction(1, 3)), at_roots(Fraction(1, 3))), (at_roots(Fraction(1, 3), Fraction(1, 3)), at_roots(Fraction(1, 3))),
    (at_roots(0, 1, 1, HALF), at_roots(0, 1, HALF)), (cur(-1, -1, 0, 0, 0, 1), cur(-1, -1, 0, 0, 0, 1)),
    (cur(-2, 4 * 10 ** 9, -2 * 10 ** 18, 0, 0, 0, 1), cur(-2, 4 * 10 ** 9, -2 * 10 ** 18, 0, 0, 0, 1)),
)
STRETCHES = ((num(-2), num(3)), (num(-7, 3), num(15, 7)), (num(-SIXTY), num(SIXTY)))


def half_by_fractions(same_places, start, end):
    """Point 16, with Python's own fractions; start less than end."""
    middle = (frac(start) + frac(end)) / 2
    there = worth_by_powers(same_places, num(middle))
    if there == 0:
        return (num(middle), num(middle))
    if there * worth_by_powers(same_places, start) < 0:
        return (start, num(middle))
    return (num(middle), end)


def place_ends():
    for curve, same_places in CURVES:
        for low, high in STRETCHES:
            for row in map_of(curve, low, high):
                if row[0] == "place":
                    yield curve, same_places, row[1], row[2]


class NarrowedTest(unittest.TestCase):
    def check_form(self, told):
        self.assertIs(type(told), tuple)
        self.assertEqual(len(told), 2)
        check_number(self, told[0])
        check_number(self, told[1])

    def test_the_half_with_unlike_signs(self):
        self.assertEqual(narrowed(ROOT_TWO, num(1), num(2)), (num(1), num(3, 2)))
        self.assertEqual(narrowed(ROOT_TWO, num(1), num(3, 2)), (num(5, 4), num(3, 2)))
        self.assertEqual(narrowed(ROOT_TWO, num(-2), num(-1)), (num(-3, 2), num(-1)))
        self.assertEqual(narrowed(ROOT_TWO, num(-3, 2), num(-1)), (num(-3, 2), num(-5, 4)))

    def test_signs_are_those_of_the_plain_part(self):
        for curve in (powers((ROOT_TWO,), (2,)), with_numbers_times(powers((ROOT_TWO,), (2,)), -5)):
            self.assertEqual(narrowed(curve, num(1), num(2)), (num(1), num(3, 2)))
            self.assertEqual(narrowed(curve, num(1), num(3, 2)), (num(5, 4), num(3, 2)))

    def test_halfway_is_the_place_itself(self):
        self.assertEqual(narrowed(cur(-1, 1), num(0), num(2)), (num(1), num(1)))
        self.assertEqual(narrowed(cur(1, -2, 1), num(0), num(2)), (num(1), num(1)))
        self.assertEqual(narrowed(at_roots(HALF, 3), num(Fraction(1, 3)), num(Fraction(2, 3))), (num(HALF), num(HALF)))

    def test_alike_stays(self):
        self.assertEqual(narrowed(cur(-1, 1), num(1), num(1)), (num(1), num(1)))
        self.assertEqual(narrowed(at_roots(0, 0, 1), num(0), num(0)), (num(0), num(0)))

    def test_rows_of_maps(self):
        for curve, same_places, start, end in place_ends():
            for again in range(12):
                told = narrowed(curve, start, end)
                self.check_form(told)
                wanted = (start, end) if start == end else half_by_fractions(same_places, start, end)
                self.assertEqual(told, wanted)
                start, end = told


class NearToTest(unittest.TestCase):
    def by_steps(self, same_places, start, end, width):
        while frac(end) - frac(start) > width:
            start, end = half_by_fractions(same_places, start, end)
        return (start, end)

    def test_plain_ones(self):
        self.assertEqual(near_to(ROOT_TWO, num(1), num(2), num(1, 4)), (num(5, 4), num(3, 2)))
        self.assertEqual(near_to(ROOT_TWO, num(1), num(2), num(3, 8)), (num(5, 4), num(3, 2)))
        self.assertEqual(near_to(ROOT_TWO, num(1), num(2), num(1, 5)), (num(11, 8), num(3, 2)))

    def test_near_enough_stays(self):
        for width in (num(1), num(3, 2), num(SIXTY)):
            self.assertEqual(near_to(ROOT_TWO, num(1), num(2), width), (num(1), num(2)))
        self.assertEqual(near_to(cur(-1, 1), num(0), num(2), num(2)), (num(0), num(2)))

    def test_just_not_near_enough(self):
        self.assertEqual(near_to(ROOT_TWO, num(1), num(2), num(SIXTY - 1, SIXTY)), (num(1), num(3, 2)))

    def test_ends_at_the_place_itself(self):
        self.assertEqual(near_to(cur(-1, 1), num(0), num(2), num(1, SIXTY)), (num(1), num(1)))
        self.assertEqual(near_to(at_roots(Fraction(5, 4), 9), num(1), num(2), num(1, SIXTY)), (num(5, 4), num(5, 4)))

    def test_alike_stays(self):
        for width in (num(1), num(1, SIXTY), num(SIXTY)):
            self.assertEqual(near_to(cur(-1, 1), num(1), num(1), width), (num(1), num(1)))

    def test_rows_of_maps(self):
        for curve, same_places, start, end in place_ends():
            for width in (Fraction(1), Fraction(3, 1000), Fraction(1, SIXTY)):
                told = near_to(curve, start, end, num(width))
                self.assertIs(type(told), tuple)
                self.assertLessEqual(frac(told[1]) - frac(told[0]), width)
                self.assertEqual(told, self.by_steps(same_places, start, end, width))

    def test_no_width_refused(self):
        for width in (0, -1, Fraction(-1, SIXTY), -SIXTY):
            refused(self, NoNear, near_to, ROOT_TWO, num(1), num(2), num(width))
            refused(self, NoNear, near_to, cur(-1, 1), num(1), num(1), num(width))


if __name__ == "__main__":
    unittest.main()
