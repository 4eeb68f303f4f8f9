"""Points 24 and 25: where two curves meet, how, and which one is above between."""

import unittest
from fractions import Fraction
from random import Random

from helpers import at_roots, check_map, cur, frac, less_number, num, powers, product, refused, sign_of_fraction
from helpers import with_numbers_times, worth_by_powers
from neverbelow.crossings import meetings, sides
from neverbelow.curves import added, taken
from neverbelow.errors import NoStretch, TooGreat
from neverbelow.maps import holds

HALF = Fraction(1, 2)
TINY = Fraction(1, 10 ** 59 + 9)
NINETEEN = 10 ** 19
ROOT_TWO = cur(-2, 0, 1)
ROUND = cur(1, 0, 1)
THREE_PLACES = cur(1, -3, 0, 1)
# Near enough to tell the order of the places; none of them is a fraction.
NEAR_ROOT_TWO = Fraction(14142135623730950488, 10 ** 19)
NEAR_THREE = (Fraction(-1879385, 10 ** 6), Fraction(347296, 10 ** 6), Fraction(1532089, 10 ** 6))
OTHERS = (
    (), cur(7), cur(0, 1), cur(1, -2, Fraction(1, 3), 0, 5), cur(*range(1, 14)),
    cur(*[Fraction(-1, place + 2) for place in range(13)]),
)
NO_STRETCHES = ((num(1), num(1)), (num(1), num(0)), (num(-1, 3), num(-1, 2)))


def words_by_places(places, low, high):
    """places: pairs of a fraction and how often the difference is nought there."""
    found = []
    for place, often in sorted(places):
        if low <= place <= high:
            found.append("end" if place in (low, high) else "touches" if often % 2 == 0 else "crosses")
    return found


def sides_by_places(curve, places, low, high):
    """The signs halfway between the places, asked of the difference itself."""
    marks = sorted({low, high} | {place for place, often in places if low <= place <= high})
    between = [(one + other) / 2 for one, other in zip(marks, marks[1:])]
    return [sign_of_fraction(worth_by_powers(curve, num(one))) for one in between]


class MeetingsTest(unittest.TestCase):
    def check(self, curve, places, low, high, others=OTHERS[3:5]):
        """curve: the difference; places: where it is nought, sorted or not."""
        low, high = Fraction(low), Fraction(high)
        words = words_by_places(places, low, high)
        signs = sides_by_places(curve, places, low, high)
        for other in others:
            one = added(other, curve)
            self.check_told(meetings(one, other, num(low), num(high)), curve, words, num(low), num(high))
            turned = meetings(other, one, num(low), num(high))
            self.check_told(turned, with_numbers_times(curve, -1), words, num(low), num(high))
            self.check_sides(sides(one, other, num(low), num(high)), signs)
            self.check_sides(sides(other, one, num(low), num(high)), [-side for side in signs])

    def check_told(self, told, curve, words, low, high):
        self.assertIs(type(told), tuple)
        self.assertEqual(len(told), 3)
        self.assertEqual(told[:2], ("meet", words))
        check_map(self, curve, low, high, told[2])
        self.assertIs(holds(curve, low, high, told[2]), True)

    def check_sides(self, told, signs):
        self.assertIs(type(told), list)
        self.assertEqual(told, signs)
        self.assertEqual({type(side) for side in told}, {int})

    def check_alike(self, curve, low, high):
        self.assertEqual(meetings(curve, curve, low, high), ("alike",))
        self.assertEqual(sides(curve, curve, low, high), [])

    def test_fractions_as_often_as_can_be(self):
        for often in range(1, 7):
            for place in (0, 1, HALF, Fraction(-1, 3), Fraction(1, NINETEEN)):
                curve = at_roots(*[place] * often)
                self.check(curve, [(place, often)], -2, 3)
                self.check(with_numbers_times(curve, Fraction(-2, 7)), [(place, often)], -2, 3)

    def test_two_lines(self):
        told = meetings(cur(0, 1), cur(2, -1), num(0), num(3))
        self.assertEqual(told[:2], ("meet", ["crosses"]))
        self.assertEqual(sides(cur(0, 1), cur(2, -1), num(0), num(3)), [-1, 1])
        self.assertEqual(sides(cur(2, -1), cur(0, 1), num(0), num(3)), [1, -1])

    def test_several_places_of_each_kind(self):
        chance = Random(24)
        choice = [Fraction(top, bottom) for top in range(-4, 5) for bottom in (1, 2, 3)]
        for degree in range(1, 7):
            for again in range(10):
                roots = [chance.choice(choice) for place in range(degree)]
                if again % 2:
                    roots = (roots * 3)[:degree]
                places = [(place, roots.count(place)) for place in set(roots)]
                curve = with_numbers_times(at_roots(*roots), chance.choice((1, -1, HALF)))
                self.check(curve, places, -1, 2, OTHERS[again % 6:again % 6 + 1])
                self.check(curve, places, min(roots), max(roots) + 1, OTHERS[5:])
                self.check(curve, places, min(roots) - HALF, max(roots), OTHERS[:1])

    def test_places_that_are_no_fractions(self):
        both = (-NEAR_ROOT_TWO, NEAR_ROOT_TWO)
        for often in (1, 2, 3):
            curve = powers((ROOT_TWO,), (often,))
            for low, high in ((-2, 2), (0, 2), (-2, 1), (-10 ** 19, 10 ** 19), (1, HALF * 3)):
                self.check(curve, [(place, often) for place in both], low, high)
        for often in (1, 2):
            curve = powers((THREE_PLACES,), (often,))
            self.check(curve, [(place, often) for place in NEAR_THREE], -2, 2)
            self.check(curve, [(place, often) for place in NEAR_THREE], 0, 1)

    def test_fractions_beside_others(self):
        both = [(-NEAR_ROOT_TWO, 1), (NEAR_ROOT_TWO, 1)]
        self.check(product(ROOT_TWO, at_roots(1, 1)), both + [(Fraction(1), 2)], -2, 2)
        self.check(product(ROOT_TWO, at_roots(1, 1, 1)), both + [(Fraction(1), 3)], -2, 1)
        self.check(product(ROOT_TWO, at_roots(1, 1, 1)), both + [(Fraction(1), 3)], 1, 2)
        twice = [(place, 2) for place, often in both]
        self.check(product(ROOT_TWO, ROOT_TWO, at_roots(0)), twice + [(Fraction(0), 1)], -2, 2)
        self.check(product(ROOT_TWO, ROOT_TWO, at_roots(0, 0)), twice + [(Fraction(0), 2)], 0, 2)

    def test_at_the_ends_and_just_outside(self):
        for often in range(1, 7):
            curve = at_roots(*[1] * often)
            places = [(Fraction(1), often)]
            for step in (TINY, Fraction(1, 3), 5):
                for low, high in ((1, 1 + step), (1 - step, 1), (1 + step, 1 + 2 * step), (1 - 2 * step, 1 - step)):
                    self.check(curve, places, low, high, OTHERS[1:2])
                self.check(curve, places, 1 - step, 1 + step, OTHERS[1:2])
        self.assertEqual(meetings(at_roots(1, 2), (), num(1), num(2))[1], ["end", "end"])
        self.assertEqual(sides(at_roots(1, 2), (), num(1), num(2)), [-1])
        self.assertEqual(sides(at_roots(1, 2, 3), (), num(1), num(3)), [1, -1])

    def test_as_many_places_as_can_be(self):
        roots = [Fraction(place) for place in (-3, -2, -1, 0, 1, 2)]
        self.check(at_roots(*roots), [(place, 1) for place in roots], -4, 3)
        self.check(at_roots(*roots), [(place, 1) for place in roots], -3, 2)
        self.assertEqual(sides(at_roots(*roots), (), num(-4), num(3)), [1, -1, 1, -1, 1, -1, 1])

    def test_places_near_each_other(self):
        near = Fraction(1, 10 ** 15)
        for roots in ((0, near), (0, 0, near), (0, near, near), (-near, 0, near)):
            places = [(Fraction(place), roots.count(place)) for place in set(roots)]
            self.check(at_roots(*roots), places, -1, 1, OTHERS[1:2])
            self.check(at_roots(*roots), places, 0, near, OTHERS[1:2])

    def test_nowhere(self):
        for curve, side in ((cur(1), 1), (cur(-3), -1), (ROUND, 1), (with_numbers_times(ROUND, -1), -1)):
            for other in OTHERS:
                self.check(curve, [], -5, 5, (other,))
                self.assertEqual(sides(added(other, curve), other, num(-5), num(5)), [side])
        self.check(powers((ROUND,), (3,)), [], -NINETEEN, NINETEEN)
        self.check(less_number(ROOT_TWO, -2 - TINY), [], -1, 1, OTHERS[:1])

    def test_alike(self):
        for curve in OTHERS + (ROOT_TWO, at_roots(1, 2)):
            self.check_alike(curve, num(-1), num(2))

    def test_great_degrees_with_a_small_difference(self):
        great = cur(*range(-6, 7))
        self.check(at_roots(0, 1, 2, 2, 3, 3), [(Fraction(0), 1), (Fraction(1), 1), (Fraction(2), 2), (Fraction(3), 2)],
                   -1, 4, (great, OTHERS[5]))
        self.check(cur(0, 1), [(Fraction(0), 1)], -1, 4, (great,))

    def test_too_great(self):
        for size in range(8, 14):
            great = cur(*[0] * (size - 1), 3)
            for other in ((), cur(1, 2), cur(*[1] * 7)):
                for low, high in ((num(0), num(1)),) + NO_STRETCHES:
                    for own in (meetings, sides):
                        refused(self, TooGreat, own, great, other, low, high)
                        refused(self, TooGreat, own, other, great, low, high)
        refused(self, TooGreat, meetings, cur(*[1] * 13), cur(*[2] * 13), num(0), num(1))

    def test_no_stretch(self):
        great = cur(*range(1, 14))
        for low, high in NO_STRETCHES:
            for own in (meetings, sides):
                for one, other in ((cur(1), cur(2)), (at_roots(1), ()), (great, added(great, ROOT_TWO))):
                    refused(self, NoStretch, own, one, other, low, high)
                for curve in OTHERS:
                    refused(self, NoStretch, own, curve, curve, low, high)

    def test_sides_and_words_fit(self):
        chance = Random(25)
        for again in range(60):
            one = cur(*[chance.randint(-4, 4) for place in range(chance.randint(0, 6))], 1)
            other = cur(*[chance.randint(-4, 4) for place in range(chance.randint(0, 6))], 1)
            if one == other:
                continue
            words, rows = meetings(one, other, num(-2), num(2))[1:]
            check_map(self, taken(one, other), num(-2), num(2), rows)
            told = sides(one, other, num(-2), num(2))
            self.assertEqual(len(told), len(words) + 1 - words.count("end"))
            inner = [word for word in words if word != "end"]
            steps = ["crosses" if side != behind else "touches" for side, behind in zip(told, told[1:])]
            self.assertEqual(steps, inner)
            self.check_sides_by_rows(taken(one, other), rows, told)

    def check_sides_by_rows(self, curve, rows, told):
        """Each sign that the map shows, in order, those that follow on without a place between told once."""
        found = []
        fresh = True
        for word, start, end, numbers in rows:
            if word == "clear":
                middle = num((frac(start) + frac(end)) / 2)
                side = sign_of_fraction(worth_by_powers(curve, middle))
                if fresh:
                    found.append(side)
                self.assertEqual(found[-1], side)
                fresh = False
            else:
                if start != end and fresh:
                    found.append(sign_of_fraction(worth_by_powers(curve, start)))
                fresh = True
                if start != end:
                    found.append(sign_of_fraction(worth_by_powers(curve, end)))
                    fresh = False
        self.assertEqual(told, found)


if __name__ == "__main__":
    unittest.main()
