"""Points 26 and 27: rows of pieces, their worths, and how smoothly they are joined."""

import unittest
from fractions import Fraction
from random import Random

from helpers import at_roots, check_number, cur, num, piece, pieces_at, powers, product, refused, shortest, steps
from helpers import sum_of, with_numbers_times, worth_by_powers
from neverbelow.errors import NoPieces, NoStretch, TooGreat
from neverbelow.pieces import is_joined, row_of, row_worth, smoothness

HALF = Fraction(1, 2)
TINY = Fraction(1, 10 ** 59 + 9)
SIX = cur(1, 2, 3, 4, 5, 6, 7)
SEVEN = cur(*[1] * 8)
NO_LOW = ((1, 1), (1, 0), (Fraction(-1, 3), HALF * -1))


class RowOfTest(unittest.TestCase):
    def test_one_to_eight_pieces(self):
        for count in range(1, 9):
            told = row_of(steps(count))
            self.assertIs(type(told), tuple)
            self.assertEqual(told, tuple(steps(count)))
            self.assertEqual({type(one) for one in told}, {tuple})

    def test_all_curves_up_to_degree_six(self):
        curves = [(), cur(1), cur(0, 1), cur(0, 0, -1), at_roots(1, 2, 3), cur(*[HALF] * 5), cur(*[-1] * 6), SIX]
        marks = [Fraction(place, 3) for place in range(-4, 5)]
        self.assertEqual(row_of(pieces_at(marks, curves)), tuple(pieces_at(marks, curves)))
        self.assertEqual(row_of([piece(-TINY, TINY, SIX)]), (piece(-TINY, TINY, SIX),))

    def test_what_is_told_may_be_handed_in_again(self):
        told = row_of(steps(3))
        self.assertEqual(row_of(list(told)), told)

    def test_none_and_too_many(self):
        refused(self, NoPieces, row_of, [])
        for count in (9, 10, 50, 100):
            refused(self, NoPieces, row_of, steps(count))

    def test_not_following_on(self):
        line = cur(0, 1)
        for second in ((1 + TINY, 2), (1 - TINY, 2), (2, 3), (0, 1), (-1, 0), (HALF, 2)):
            refused(self, NoPieces, row_of, [piece(0, 1, line), piece(*second, line)])
        for place in range(1, 8):
            handed = steps(8)
            handed[place] = piece(place + HALF / 2, place + 1, line)
            refused(self, NoPieces, row_of, handed)
            handed[place] = piece(place, place + HALF, line)
            if place < 7:
                refused(self, NoPieces, row_of, handed)
        refused(self, NoPieces, row_of, list(reversed(steps(2))))

    def test_a_low_that_is_not_less(self):
        for low, high in NO_LOW:
            refused(self, NoPieces, row_of, [piece(low, high, cur(1))])
            refused(self, NoPieces, row_of, [piece(low - 1, low, ()), piece(low, high, cur(1))])
            refused(self, NoPieces, row_of, [piece(low, high, cur(1)), piece(high, high + 1, ())])
        # These follow on, and the whole goes from a low to a higher one; only the middle goes back.
        refused(self, NoPieces, row_of, pieces_at((0, 2, 1, 3), [cur(1), cur(2), cur(3)]))

    def test_too_great(self):
        refused(self, TooGreat, row_of, [piece(0, 1, SEVEN)])
        refused(self, TooGreat, row_of, [piece(0, 1, cur(*[1] * 13))])
        for place in range(8):
            handed = steps(8)
            handed[place] = piece(place, place + 1, SEVEN)
            refused(self, TooGreat, row_of, handed)

    def test_no_pieces_goes_ahead_of_too_great(self):
        nine = [one[:2] + (SEVEN,) for one in steps(9)]
        refused(self, NoPieces, row_of, nine)
        refused(self, NoPieces, row_of, [piece(0, 1, SEVEN), piece(2, 3, cur(1))])
        refused(self, NoPieces, row_of, [piece(0, 1, SEVEN), piece(1, 1, cur(1))])
        for low, high in NO_LOW:
            refused(self, NoPieces, row_of, [piece(low, high, SEVEN)])


class RowWorthTest(unittest.TestCase):
    def check(self, row, x, wanted):
        told = row_worth(row, num(x))
        check_number(self, told)
        self.assertEqual(told, num(wanted))

    def test_in_pieces_and_at_joints(self):
        for count in range(1, 9):
            row = row_of(steps(count))
            for place in range(count):
                for inner in (0, TINY, HALF, 1 - TINY):
                    self.check(row, place + inner, place + 10)
            self.check(row, count, count + 9)

    def test_worths_of_curves(self):
        row = row_of(pieces_at((-1, Fraction(1, 3), 2), [SIX, at_roots(1, 2)]))
        for x in (-1, 0, Fraction(1, 3) - TINY):
            self.check(row, x, worth_by_powers(SIX, num(x)))
        for x in (Fraction(1, 3), 1, 2):
            self.check(row, x, worth_by_powers(at_roots(1, 2), num(x)))
        self.check(row_of([piece(0, 1, ())]), HALF, 0)

    def test_outside(self):
        for row in (row_of(steps(1)), row_of(steps(8))):
            for x in (0 - TINY, -1, -10 ** 59, len(row) + TINY, len(row) + 1, 10 ** 59):
                refused(self, NoStretch, row_worth, row, num(x))


class SmoothnessTest(unittest.TestCase):
    def check(self, marks, curves, wanted):
        row = row_of(pieces_at(marks, curves))
        told = smoothness(row)
        self.assertIs(type(told), list)
        self.assertEqual(told, wanted)
        self.assertIs(is_joined(row), -1 not in wanted)

    def test_one_piece(self):
        for curve in ((), cur(1), SIX):
            self.check((0, 1), [curve], [])

    def test_the_same_curve(self):
        for curve in ((), cur(1), SIX):
            self.check((0, 1, 2), [curve, curve], [None])
            self.check(range(9), [curve] * 8, [None] * 7)

    def test_worths_that_differ(self):
        self.check((0, 1, 2), [cur(1), cur(2)], [-1])
        self.check((0, 1, 2), [cur(1), ()], [-1])
        self.check((0, 1, 2), [cur(0, 1), cur(1 + TINY)], [-1])
        # The slopes agree, the worths don't.
        self.check((0, 1, 2), [SIX, sum_of(SIX, cur(TINY))], [-1])

    def test_known_by_hand(self):
        self.check((-1, 0, 1), [cur(0, -1), cur(0, 1)], [0])
        self.check((-1, 0, 1), [(), cur(0, 0, 1)], [1])
        self.check((0, 1, 2), [cur(0, 0, 1), cur(-1, 2)], [1])
        self.check((0, 1, 2), [cur(0, 0, 1), cur(2, -1)], [0])
        # Pieces of a cubic spline: worths, slopes and the slopes' slopes agree.
        self.check((0, 1, 2), [cur(0, 0, 0, 1), cur(1, -3, 3)], [2])
        # Worths and slopes' slopes agree, slopes don't: what comes behind doesn't count.
        self.check((-1, 0, 1), [cur(3, 1, 5), cur(3, 2, 5)], [0])

    def test_each_smoothness_that_can_be(self):
        chance = Random(27)
        for smooth in range(-1, 6):
            for joint in (0, 1, Fraction(-2, 3), TINY):
                for again in range(4):
                    one = shortest([Fraction(chance.randint(-9, 9), chance.randint(1, 5)) for place in range(7)])
                    # What is left behind the joint's factors isn't nought at the joint.
                    left = cur(chance.choice((1, -1, Fraction(1, 7))))
                    if smooth < 5:
                        left = product(left, at_roots(joint + 1))
                    other = sum_of(one, product(powers((at_roots(joint),), (smooth + 1,)), left))
                    self.check((joint - 1, joint, joint + 2), [one, other], [smooth])
                    self.check((joint - 1, joint, joint + 2), [other, one], [smooth])

    def test_all_joints_in_order(self):
        curves = [cur(0, 0, 0, 0, 0, 0, 1)]
        marks = [0]
        wanted = []
        for joint, smooth in ((1, 5), (2, 4), (3, None), (4, -1), (5, 0), (6, 2), (7, 1)):
            marks.append(joint)
            wanted.append(smooth)
            change = () if smooth is None else powers((at_roots(joint),), (smooth + 1,))
            curves.append(sum_of(curves[-1], change))
        self.check(marks + [8], curves, wanted)

    def test_joined(self):
        line = cur(0, 1)
        for curves, joined in (([line, line], True), ([line, cur(1)], True), ([line, cur(2)], False)):
            self.assertIs(is_joined(row_of(pieces_at((0, 1, 2), curves))), joined)
        self.assertIs(is_joined(row_of([piece(0, 1, line)])), True)
        for bad in range(1, 8):
            curves = [cur(1)] * bad + [with_numbers_times(cur(1), 2)] * (8 - bad)
            self.assertIs(is_joined(row_of(pieces_at(range(9), curves))), False)


if __name__ == "__main__":
    unittest.main()
