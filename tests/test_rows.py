"""Points 28 to 30: what is told of rows of pieces, and rows that are added, multiplied, moved, stretched."""

import unittest
from fractions import Fraction
from random import Random

from helpers import at_roots, check_curve, check_number, check_verdict, cur, frac, less_number, num, piece, pieces_at
from helpers import powers, refused, shortest, steps, sum_of, with_numbers_times, worth_by_powers
from neverbelow.curves import moved, stretched
from neverbelow.errors import NoNear, NoNumber, NoPieces, TooGreat
from neverbelow.pieces import plainest, row_least, row_moved, row_of, row_stretched, row_verdict, row_worth
from neverbelow.pieces import rows_added, rows_multiplied, smoothness
from neverbelow.verdicts import shown, verdict

HALF = Fraction(1, 2)
TINY = Fraction(1, 10 ** 59 + 9)
SIX = cur(1, 2, 3, 4, 5, 6, 7)
ROOT_TWO = cur(-2, 0, 1)
TURN = cur(0, -2, 0, 1)
LINE = cur(0, 1)
NEARS = (Fraction(1, 10 ** 20), Fraction(1, 7), 1, 1000)
NO_NEARS = (num(0), num(-1), num(-1, 10 ** 20))


def row_at(marks, *curves):
    return row_of(pieces_at(marks, curves))


def joints_of(row):
    return [one[0] for one in row[1:]]


def random_curve(chance, size):
    return shortest([Fraction(chance.randint(-6, 6), chance.randint(1, 3)) for place in range(size)])


def random_row(chance, marks, degree):
    """A row whose joints have all kinds of smoothness."""
    curves = [random_curve(chance, degree + 1)]
    for joint in marks[1:-1]:
        smooth = chance.choice((-1, 0, 1, 2, None))
        change = ()
        if smooth is not None and smooth < degree:
            change = with_numbers_times(powers((at_roots(joint),), (smooth + 1,)), chance.choice((1, -2, HALF)))
        curves.append(sum_of(curves[-1], change))
    return row_at(marks, *curves)


class RowVerdictTest(unittest.TestCase):
    def check(self, word, row):
        told = row_verdict(row)
        self.assertIs(type(told), tuple)
        self.assertEqual(len(told), 2)
        self.assertEqual(told[0], word)
        self.assertIs(type(told[1]), list)
        self.assertEqual(len(told[1]), len(row))
        for (low, high, curve), one in zip(row, told[1]):
            check_verdict(self, curve, low, high, one)
            self.assertIs(shown(curve, low, high, one), True)
        return [one[0] for one in told[1]]

    def test_words(self):
        curves = {"above": cur(1), "touches": at_roots(HALF, HALF), "below": cur(-1)}
        moves = {word: [moved(curve, num(place)) for place in range(3)] for word, curve in curves.items()}
        for first in curves:
            for second in curves:
                for third in curves:
                    words = [first, second, third]
                    row = row_at(range(4), *[moves[word][place] for place, word in enumerate(words)])
                    whole = "below" if "below" in words else "touches" if "touches" in words else "above"
                    self.assertEqual(self.check(whole, row), words)

    def test_one_piece_and_eight(self):
        for curve in ((), cur(1), cur(-1), SIX, ROOT_TWO, at_roots(0, 1), at_roots(HALF, HALF)):
            low, high = num(0), num(1)
            word = verdict(curve, low, high)[0]
            self.assertEqual(self.check(word, row_of([(low, high, curve)])), [word])
        row = row_of([one[:2] + (at_roots(8),) for one in steps(8)])
        self.assertEqual(self.check("below", row), ["below"] * 8)
        row = row_of([one[:2] + (with_numbers_times(at_roots(8), -1),) for one in steps(8)])
        self.assertEqual(self.check("touches", row), ["above"] * 7 + ["touches"])

    def test_each_piece_on_its_own_stretch_alone(self):
        # Beyond its stretch each curve is below nought.
        row = row_at((0, 1, 2), cur(1, -1), cur(-1, 1))
        self.assertEqual(self.check("touches", row), ["touches", "touches"])
        row = row_at((0, 1, 2), cur(2, -1), LINE)
        self.assertEqual(self.check("above", row), ["above", "above"])

    def test_nought_is_touching(self):
        row = row_at((0, 1, 2), (), cur(1))
        self.assertEqual(self.check("touches", row), ["touches", "above"])
        self.assertEqual(row_verdict(row)[1][0], ("touches", []))


class RowLeastTest(unittest.TestCase):
    def check(self, row, near):
        told = row_least(row, num(near))
        self.assertIs(type(told), tuple)
        self.assertEqual(len(told), 2)
        floor, place = told
        check_number(self, floor)
        check_number(self, place)
        gaps = [
            worth_by_powers(curve, place) - frac(floor) for low, high, curve in row
            if frac(low) <= frac(place) <= frac(high)
        ]
        self.assertTrue(any(0 <= gap <= near for gap in gaps), told)
        for low, high, curve in row:
            above = less_number(curve, frac(floor))
            shows = verdict(above, low, high)
            self.assertNotEqual(shows[0], "below")
            check_verdict(self, above, low, high, shows)
        return told

    def check_all(self, *row):
        return [self.check(row_of(list(row)), near) for near in NEARS]

    def test_known_least_worths(self):
        told = self.check(row_at((0, 1, 2), LINE, cur(2, -1)), Fraction(1, 9))
        self.assertIn(told[1], (num(0), num(2)))
        self.check_all(piece(0, 1, cur(5)))
        self.check_all(piece(0, 1, ()), piece(1, 2, cur(3)))
        self.check_all(piece(-1, 0, cur(0, -1)), piece(0, 1, LINE))
        self.check_all(piece(-1, 1, TURN), piece(1, 3, TURN))
        self.check_all(piece(-2, 1, ROOT_TWO), piece(1, 2, SIX), piece(2, 3, cur(-1, 0, 0, 0, 0, 0, 1)))

    def test_the_lowest_of_all_pieces(self):
        for lowest in range(8):
            tops = [9] * 8
            tops[lowest] = 4
            row = row_of([one[:2] + (cur(top),) for one, top in zip(steps(8), tops)])
            for near in (Fraction(1, 9), 1, 4):
                floor, place = self.check(row, near)
                self.assertTrue(lowest <= frac(place) <= lowest + 1)
                self.assertTrue(4 - near <= frac(floor) <= 4)

    def test_pieces_that_differ_at_a_joint(self):
        # The first piece is lowest at the joint, where the row's own worth is the second one's.
        row = row_at((0, 1, 2), cur(0, -1), cur(5))
        floor, place = self.check(row, Fraction(1, 100))
        self.assertEqual(place, num(1))
        self.assertTrue(-1 - Fraction(1, 100) <= frac(floor) <= -1)
        self.assertEqual(row_worth(row, num(1)), num(5))
        row = row_at((0, 1, 2), cur(5), cur(-2, 1))
        floor, place = self.check(row, Fraction(1, 100))
        self.assertEqual(place, num(1))
        self.assertTrue(-1 - Fraction(1, 100) <= frac(floor) <= -1)

    def test_beyond_the_pieces_curves_may_be_lower(self):
        floor, place = self.check(row_at((0, 1, 2), cur(9, 1), cur(11, -1)), Fraction(1, 9))
        self.assertGreaterEqual(frac(floor), 9 - Fraction(1, 9))

    def test_many_rows(self):
        chance = Random(28)
        for again in range(25):
            marks = sorted(chance.sample(range(-6, 7), chance.randint(2, 5)))
            self.check(random_row(chance, [Fraction(mark, 2) for mark in marks], 6), chance.choice(NEARS))

    def test_no_near(self):
        for row in (row_of(steps(1)), row_of(steps(8)), row_of([piece(0, 1, ())]), row_of([piece(0, 1, SIX)])):
            for near in NO_NEARS:
                refused(self, NoNear, row_least, row, near)


class TwoRowsTest(unittest.TestCase):
    def check(self, own, one, other):
        told = own(one, other)
        self.assertIs(type(told), tuple)
        self.assertEqual(told[0][0], one[0][0])
        self.assertEqual(told[-1][1], one[-1][1])
        marks = {frac(mark) for row in (one, other) for mark in joints_of(row)}
        self.assertEqual([frac(mark) for mark in joints_of(told)], sorted(marks))
        self.assertEqual(row_of(list(told)), told)
        for low, high, curve in told:
            check_curve(self, curve)
            self.check_piece(own, one, other, low, high, curve)
        return told

    def check_piece(self, own, one, other, low, high, curve):
        """Thirteen worths settle the curve; all are asked within the piece."""
        for step in range(13):
            x = num(frac(low) + (frac(high) - frac(low)) * Fraction(step, 13))
            both = (frac(row_worth(one, x)), frac(row_worth(other, x)))
            wanted = both[0] + both[1] if own is rows_added else both[0] * both[1]
            self.assertEqual(worth_by_powers(curve, x), wanted)

    def test_by_hand(self):
        one = row_at((0, 1, 3), LINE, cur(1))
        other = row_at((0, 2, 3), cur(2), cur(0, 1))
        self.assertEqual(rows_added(one, other), row_at((0, 1, 2, 3), cur(2, 1), cur(3), cur(1, 1)))
        self.assertEqual(rows_multiplied(one, other), row_at((0, 1, 2, 3), cur(0, 2), cur(2), cur(0, 1)))

    def test_joints_of_both_each_once(self):
        chance = Random(29)
        for again in range(40):
            inner = sorted(chance.sample(range(1, 20), 7))
            cuts = [sorted(chance.sample(inner, chance.randint(0, 7))) for row in range(2)]
            rows = [random_row(chance, [0] + cut + [20], 3) for cut in cuts]
            for own in (rows_added, rows_multiplied):
                self.check(own, rows[0], rows[1])
                self.check(own, rows[1], rows[0])

    def test_joints_of_the_same_curve_stay(self):
        row = row_at((0, 1, 2), LINE, LINE)
        self.assertEqual(rows_added(row, row), row_at((0, 1, 2), cur(0, 2), cur(0, 2)))
        self.assertEqual(rows_multiplied(row, row_of([piece(0, 2, ())])), row_at((0, 1, 2), (), ()))
        against = row_at((0, 1, 2), cur(0, -1), cur(0, -1))
        self.assertEqual(rows_added(row, against), row_at((0, 1, 2), (), ()))

    def test_eight_pieces_at_most(self):
        five = row_at((0, 2, 4, 6, 8, 10), *[LINE] * 5)
        four = row_at((0, 1, 3, 5, 10), *[cur(1)] * 4)
        five_others = row_at((0, 1, 3, 5, 7, 10), *[cur(1)] * 5)
        shared = row_at((0, 2, 3, 5, 7, 10), *[cur(1)] * 5)
        eight = row_at((0, 1, 2, 3, 4, 5, 6, 8, 10), *[cur(1)] * 8)
        for own in (rows_added, rows_multiplied):
            self.assertEqual(len(self.check(own, five, four)), 8)
            self.assertEqual(len(self.check(own, five, shared)), 8)
            self.assertEqual(len(self.check(own, eight, eight)), 8)
            self.assertEqual(len(self.check(own, eight, five)), 8)
            refused(self, NoPieces, own, five, five_others)
            refused(self, NoPieces, own, five_others, five)
            refused(self, NoPieces, own, eight, five_others)

    def test_not_beginning_and_ending_alike(self):
        row = row_at((0, 1, 2), LINE, cur(1))
        for marks in ((0, 1), (1, 2), (0, 1, 3), (-1, 1, 2), (0, 2 + TINY), (TINY, 2), (-1, 3), (2, 3), (-1, 0)):
            other = row_at(marks, *[LINE] * (len(marks) - 1))
            for own in (rows_added, rows_multiplied):
                refused(self, NoPieces, own, row, other)
                refused(self, NoPieces, own, other, row)

    def test_too_great(self):
        for one, other in ((SIX, LINE), (LINE, SIX), (SIX, SIX), (at_roots(0, 1, 2, 3), at_roots(0, 1, 2))):
            refused(self, TooGreat, rows_multiplied, row_of([piece(0, 2, one)]), row_of([piece(0, 2, other)]))
            ahead = row_at((0, 1, 2), cur(1), one)
            behind = row_at((0, HALF, 2), cur(2), other)
            refused(self, TooGreat, rows_multiplied, ahead, behind)
        # Where the great curves don't meet each other, nothing is too great.
        self.check(rows_multiplied, row_at((0, 1, 2), SIX, cur(1)), row_at((0, 1, 2), cur(2), SIX))
        self.check(rows_multiplied, row_at((0, 1, 2), SIX, cur(1)), row_at((0, 1, 2), (), SIX))
        self.check(rows_multiplied, row_of([piece(0, 1, at_roots(0, 1, 2))]), row_of([piece(0, 1, at_roots(3, 4, 5))]))
        self.check(rows_added, row_of([piece(0, 1, SIX)]), row_of([piece(0, 1, SIX)]))

    def test_no_pieces_goes_ahead_of_too_great(self):
        refused(self, NoPieces, rows_multiplied, row_of([piece(0, 1, SIX)]), row_of([piece(0, 2, SIX)]))
        five = row_at((0, 2, 4, 6, 8, 10), *[SIX] * 5)
        others = row_at((0, 1, 3, 5, 7, 10), *[SIX] * 5)
        refused(self, NoPieces, rows_multiplied, five, others)


class SmoothTogetherTest(unittest.TestCase):
    def smooth_by_place(self, row):
        found = zip(joints_of(row), smoothness(row))
        # None is smoother than any number.
        return {joint: 99 if smooth is None else smooth for joint, smooth in found}

    def check(self, one, other):
        both = [self.smooth_by_place(row) for row in (one, other)]
        for own in (rows_added, rows_multiplied):
            for joint, smooth in self.smooth_by_place(own(one, other)).items():
                self.assertGreaterEqual(smooth, min(row.get(joint, 99) for row in both))

    def test_sums_and_products(self):
        chance = Random(30)
        for again in range(60):
            cuts = [sorted(chance.sample(range(1, 9), chance.randint(0, 4))) for row in range(2)]
            cuts[1] = cuts[0] if again % 2 else [mark for mark in cuts[1] if len(cuts[0]) + len(cuts[1]) < 8]
            rows = [random_row(chance, [0] + cut + [9], 3) for cut in cuts]
            self.check(rows[0], rows[1])

    def test_just_as_smooth(self):
        bend = row_at((0, 1, 2), cur(0, 0, 0, 1), cur(1, -3, 3))
        edge = row_at((0, 1, 2), cur(2, -1), LINE)
        whole = row_of([piece(0, 2, cur(1, 1))])
        self.assertEqual(smoothness(bend), [2])
        self.assertEqual(smoothness(rows_added(bend, whole)), [2])
        self.assertEqual(smoothness(rows_multiplied(bend, whole)), [2])
        self.assertEqual(smoothness(rows_added(bend, edge)), [0])
        self.assertEqual(smoothness(rows_multiplied(bend, edge)), [0])


class MovedRowsTest(unittest.TestCase):
    def test_moved(self):
        chance = Random(6)
        for c in (0, 3, -1, Fraction(2, 3), TINY):
            for again in range(4):
                row = random_row(chance, [Fraction(-1, 2), 0, 1, 3], 6)
                told = row_moved(row, num(c))
                wanted = [
                    (num(frac(low) + c), num(frac(high) + c), moved(curve, num(c))) for low, high, curve in row
                ]
                self.assertEqual(told, row_of(wanted))
                self.assertEqual(smoothness(told), smoothness(row))
                for x in (Fraction(-1, 2), 0, Fraction(1, 3), 1, 2, 3):
                    self.assertEqual(row_worth(told, num(x + c)), row_worth(row, num(x)))

    def test_stretched(self):
        chance = Random(7)
        for k in (1, 3, Fraction(2, 3), TINY, 10 ** 19):
            for again in range(4):
                row = random_row(chance, [Fraction(-1, 2), 0, 1, 3], 6)
                told = row_stretched(row, num(k))
                wanted = [
                    (num(frac(low) * k), num(frac(high) * k), stretched(curve, num(k))) for low, high, curve in row
                ]
                self.assertEqual(told, row_of(wanted))
                self.assertEqual(smoothness(told), smoothness(row))
                for x in (Fraction(-1, 2), 0, Fraction(1, 3), 1, 2, 3):
                    self.assertEqual(row_worth(told, num(x * k)), row_worth(row, num(x)))

    def test_stretched_by_nought_or_below(self):
        for row in (row_of(steps(1)), row_of(steps(8)), row_of([piece(0, 1, ())])):
            for k in (num(0), num(-1), num(-1, 10 ** 59)):
                refused(self, NoNumber, row_stretched, row, k)

    def test_verdicts_are_carried_along(self):
        row = row_at((-2, 0, 1, 3), ROOT_TWO, at_roots(HALF, HALF), cur(1, 0, 1))
        words = [one[0] for one in row_verdict(row)[1]]
        for told in (row_moved(row, num(5, 3)), row_stretched(row, num(5, 3))):
            self.assertEqual([one[0] for one in row_verdict(told)[1]], words)


class PlainestTest(unittest.TestCase):
    def test_joints_that_are_left_out(self):
        self.assertEqual(plainest(row_at((0, 1, 2), LINE, LINE)), row_of([piece(0, 2, LINE)]))
        self.assertEqual(plainest(row_at(range(9), *[SIX] * 8)), row_of([piece(0, 8, SIX)]))
        self.assertEqual(plainest(row_at((0, 1, 2), (), ())), row_of([piece(0, 2, ())]))
        told = plainest(row_at(range(8), LINE, LINE, cur(1), LINE, cur(1), cur(1), cur(1)))
        self.assertEqual(told, row_at((0, 2, 3, 4, 7), LINE, cur(1), LINE, cur(1)))

    def test_joints_that_stay(self):
        for row in (row_of(steps(8)), row_of(steps(1)), row_at((-1, 0, 1), (), cur(0, 0, 0, 0, 0, 0, 1))):
            self.assertEqual(plainest(row), row)

    def test_many_rows(self):
        chance = Random(9)
        for again in range(40):
            row = random_row(chance, list(range(chance.randint(2, 9))), 3)
            told = plainest(row)
            self.assertIs(type(told), tuple)
            self.assertEqual(row_of(list(told)), told)
            self.assertEqual(len(told), 1 + sum(smooth is not None for smooth in smoothness(row)))
            self.assertEqual(smoothness(told), [smooth for smooth in smoothness(row) if smooth is not None])
            self.assertEqual((told[0][0], told[-1][1]), (row[0][0], row[-1][1]))
            for low, high, curve in row:
                for x in (low, num((frac(low) + frac(high)) / 2)):
                    self.assertEqual(row_worth(told, x), row_worth(row, x))


if __name__ == "__main__":
    unittest.main()
